import PyProof.Rows.All
import HandS.ForMost
import HandS.Base
import HandS.Call
import HandS.Ends
import HandS.Head0
import HandS.Head1
import HandS.Head2
import HandS.HeadEnd
import HandS.HeadHook1
import HandS.HeadHook2
import HandS.HeadHook3
import HandS.HeadHook4
import HandS.Deep
import HandS.Dict
import HandS.TupAny
import HandS.Conv
import HandS.NoneIn
import HandS.IsInst
import HandS.Wide
import PyProof.NeKinds
import PyProof.EqAt
import HandS.Walk
import HandS.Style
import KE.KTupSum
import HandS.More
import HandS.Exc
import HandS.ExcOwn
import HandS.WordsExc
import HandS.ExcInit
import HandS.ExcField
import HandS.ExcIs
import KE.KExcIs
import KE.RegKIsAll
import KE.DataCmp
import HandS.TupLe
import HandS.Text
import HandS.StrMore
import HandS.FStr
import HandS.Zip
import HandS.Property
import HandS.Star
import PySem.Challenge.RW_bothreaders_k01_formats_and_files_judged
set_option Elab.async false
set_option linter.all false
/-! the head by one kernel run: what its facts give -/
namespace Hd
open PySem PySem.Spec PyProof.Rows L2
theorem getB {l : List Bool} (h : l.all id = true) (i : Nat) {b : Bool} (e : l[i]? = some b) : b = true := by
  have m : b ∈ l := List.mem_of_getElem? e
  exact List.all_eq_true.mp h b m
theorem funL {K : PySem.W.Frag} {nm q : Str} {ps : Arguments} {bd : List Stmt} {sc : Scope} {f : Addr} {fd : FuncData} (F : FunD K nm q ps bd sc [] [] f fd) :
    ∃ (oc kV doc pm cdv ct : Value) (od an : Option Addr) (sl : Array (Option Value)), K.lookup f = some ⟨oc, od, .func (PySem.W.fnOf nm q ps bd sc .none kV doc pm an cdv ct), sl⟩ ∧ PySem.W.codeIn K cdv q = true ∧ PySem.W.keepIn K (.ref f) = true := by
  obtain ⟨⟨oc, od, dV, kV, doc, pm, an, cdv, ct, osl, e, l, c, dd, _⟩, k⟩ := F
  rcases dd with ⟨_, rfl⟩ | ⟨h, _⟩
  · exact ⟨oc, kV, doc, pm, cdv, ct, od, an, osl, e ▸ l, c, k⟩
  · exact absurd rfl h
/-- a global tuple of plain things -/
def tuB (K : PySem.W.Frag) (x : Str) (vs : List V) : Bool :=
  match K.lookup (He.ga K x) with
  | some ⟨.type c, _, .seq i _, _⟩ => decide (c = "tuple") && (decide (i.size ≤ 16777216) && He.relAll vs i.toList)
  | _ => false
theorem tuL {K : PySem.W.Frag} {x : Str} {vs : List V} (h : tuB K x vs = true) :
    ∃ (q : Option Addr) (i : Array Value) (n : Nat) (s : Array (Option Value)), K.lookup (He.ga K x) = some ⟨.type "tuple", q, .seq i n, s⟩ ∧ Vals vs i.toList ∧ i.size ≤ 16777216 := by
  unfold tuB at h
  split at h
  · next c q i n s e =>
    simp only [Bool.and_eq_true, decide_eq_true_eq] at h
    obtain ⟨rfl, h1, h2⟩ := h
    exact ⟨q, i, n, s, e, He.relAll_ok h2, h1⟩
  · cases h
def tokI (v : Option (Option Value)) : Tok := match v with | some (some (.int _ t)) => t | some (some (.str _ t)) => t | _ => default
/-- the part of the heap that the head tells: what the top made, and its names -/
def asH : List Addr := 3 :: List.range' 100 1900
def hookL (fn : List He.DefD) (ts : List He.Tab) (ex : PySem.W.Frag → Bool) : PySem.W.Hook where
  α := He.AlT × Bool
  obs s := (He.obsT [] fn ts (He.frG s.heap.get? asH), ex (He.frG s.heap.get? asH))
  val w := (He.valT fn ts w, true)
  says w h := ∃ K : PySem.W.Frag, K.In h ∧ He.SaysT [] fn ts w K ∧ ex K = true
  of w s e := ⟨He.frG s.heap.get? asH, He.frG_in, congrArg Prod.fst e, congrArg Prod.snd e⟩
  keeps w h h' c k := by
    obtain ⟨K, i, c⟩ := c
    exact ⟨K, fun a o l => k a o (i a o l), c⟩
def obL (fn : List He.DefD) (ts : List He.Tab) (ex : PySem.W.Frag → Bool) (g : Addr → Option Obj) : He.AlT × Bool := (He.obsT [] fn ts (He.frG g asH), ex (He.frG g asH))
theorem obL_eq {fn : List He.DefD} {ts : List He.Tab} {ex : PySem.W.Frag → Bool} {g : Addr → Option Obj} {s : Shared} (h : ∀ a : Addr, g a = s.heap.get? a) : obL fn ts ex g = (hookL fn ts ex).obs s := by
  have e : g = s.heap.get? := funext h
  subst e
  rfl
open HandSHeadRun in
theorem run_of {r : PySem.W.OpenRow} {q : Program} {H : PySem.W.Hook} {ob : PySem.W.SharedT → H.α} {M : Nat} {loose : List Str} {w : World}
    (ha : ∀ os : OsState, Option.map (fun s => (looksF r.prog (PySem.W.boot_heap w.params) s.abs, seenQ q loose (importedModules r.prog.main.body) (fun s => PySem.W.xlAt q [] s && PySem.W.recOk r.records s) s.abs)) (endF (stepQ (denQ tabQ) r.prog w) M r.prog w os) = some (true, PySem.W.openGood q loose))
    (hb : ∀ os : OsState, Option.map ob (endF (stepQ (denQ tabQ) r.prog w) M r.prog w os) = some (H.val w)) : RunEq r q H ob M loose w := by
  intro os
  have a := ha os
  have b := hb os
  cases h : endF (stepQ (denQ tabQ) r.prog w) M r.prog w os with
  | none => rw [h] at a; cases a
  | some s =>
    rw [h] at a b
    rw [Option.map_some] at a b ⊢
    injection a with a
    injection b with b
    injection a with a1 a2
    rw [a1, a2, b]
end Hd

set_option Elab.async false
set_option linter.all false
set_option maxRecDepth 100000
set_option maxHeartbeats 0
namespace HdK01
open PySem PySem.Spec PyProof.Rows L2
def topS (i : Nat) : Stmt := PySem.Challenge.pw_bothreaders_k01_formats_and_files_judged.main.body.getD i (.Pass ⟨0, 0, 0, 0⟩)
abbrev s_rinit : Stmt := inClass (topS 102) 0
abbrev s_pinit : Stmt := inClass (topS 103) 0
abbrev s__law_grab : Stmt := topS 109
abbrev s__law_drawn_tags : Stmt := topS 114
abbrev s__law_drawn_form : Stmt := topS 115
abbrev s__law_any_form : Stmt := topS 118
abbrev s__law_bag : Stmt := topS 108
abbrev s__law_bent_file : Stmt := topS 117
abbrev s__law_bent_form : Stmt := topS 116
abbrev s__law_equal : Stmt := topS 110
abbrev s__law_is_sign : Stmt := topS 111
abbrev s__law_is_form : Stmt := topS 112
abbrev s__law_is_signs : Stmt := topS 113
abbrev s__is_word : Stmt := topS 54
abbrev s_is_integer : Stmt := topS 51
abbrev s_is_sign : Stmt := topS 52
abbrev s__is_tag : Stmt := topS 56
abbrev s__are_tags : Stmt := topS 57
abbrev s__is_head : Stmt := topS 55
abbrev s_is_format : Stmt := topS 43
abbrev s_check_format : Stmt := topS 45
abbrev s_check_same_base : Stmt := topS 49
abbrev s_check_two_formats : Stmt := topS 48
abbrev s_behind_marks : Stmt := topS 24
abbrev s_first_stand : Stmt := topS 23
abbrev s_are_signs : Stmt := topS 53
abbrev s_is_file : Stmt := topS 44
abbrev s_law : Stmt := topS 119
abbrev R : PySem.W.OpenRow := PySem.W.OpenLaw.row PySem.Challenge.rw_bothreaders_k01_formats_and_files_judged
def nm0 : List PySem.Str := ["_wall", "FileError", "InvalidFormat", "InvalidFormats", "InvalidFile", "InvalidSign", "InvalidMark", "InvalidNumber", "OtherBase", "Refused", "BASE", "HEAD", "WIDTH", "MOST", "TAGS", "OTHERS", "TAG", "ROOM", "OVER", "TOLD_USES"]
def nm1 : List PySem.Str := ["NOTHING", "first_stand", "behind_marks", "with_head", "use_of", "end_tag", "next_stand", "_behind_mark", "_behind_tag", "_behind_first", "_behind_second", "_behind_length", "_behind_body", "_behind_body_sign", "ends_well", "told_part", "all_stands", "stands_along", "WIDTHS", "USES"]
def nm2 : List PySem.Str := ["is_format", "is_file", "check_format", "check_file", "check_formats", "check_two_formats", "check_same_base", "are_of_one_base", "is_integer", "is_sign", "are_signs", "_is_word", "_is_head", "_is_tag", "_are_tags", "REFUSED", "FIRST", "Machine", "machine_of", "stands_behind"]
def nm3 : List PySem.Str := ["pairs_along", "joint_machine", "numbered_rows", "least_file", "least_common", "joint_stands", "first_stands", "all_end", "file_to", "read_the_same", "_leader_of", "_widened", "common", "common_commons", "completion", "_check_signs", "REFUSALS", "read", "refusal", "word_at"]
def nm4 : List PySem.Str := ["refusal_along", "along_read", "told_along", "_body_of", "EVEN", "PARTED", "MOST_GAPS", "unlike", "unlike_faces", "_least_uneven", "_is_witness", "_places_behind", "_gap_behind", "Reader", "Pair", "_common_machine", "_with_mark", "_without_last_marks", "_law_bag", "_law_grab"]
def nm5 : List PySem.Str := ["_law_equal", "_law_is_sign", "_law_is_form", "_law_is_signs", "_law_drawn_tags", "_law_drawn_form", "_law_bent_form", "_law_bent_file", "_law_any_form"]
def names : List PySem.Str := nm0 ++ nm1 ++ nm2 ++ nm3 ++ nm4 ++ nm5
abbrev qv : Program := PySem.W.view R.prog [119]
def dd_Reader___init__ : He.DefD := ⟨("Reader", some "__init__"), "__init__", "Reader.__init__", defArgs s_rinit, defBody s_rinit, defScope s_rinit, [], []⟩
def dd_Pair___init__ : He.DefD := ⟨("Pair", some "__init__"), "__init__", "Pair.__init__", defArgs s_pinit, defBody s_pinit, defScope s_pinit, [], []⟩
def dd__law_grab : He.DefD := ⟨("_law_grab", none), "_law_grab", "_law_grab", defArgs s__law_grab, defBody s__law_grab, defScope s__law_grab, [], []⟩
def dd__law_drawn_tags : He.DefD := ⟨("_law_drawn_tags", none), "_law_drawn_tags", "_law_drawn_tags", defArgs s__law_drawn_tags, defBody s__law_drawn_tags, defScope s__law_drawn_tags, [], []⟩
def dd__law_drawn_form : He.DefD := ⟨("_law_drawn_form", none), "_law_drawn_form", "_law_drawn_form", defArgs s__law_drawn_form, defBody s__law_drawn_form, defScope s__law_drawn_form, [], []⟩
def dd__law_any_form : He.DefD := ⟨("_law_any_form", none), "_law_any_form", "_law_any_form", defArgs s__law_any_form, defBody s__law_any_form, defScope s__law_any_form, [], []⟩
def dd__law_bag : He.DefD := ⟨("_law_bag", none), "_law_bag", "_law_bag", defArgs s__law_bag, defBody s__law_bag, defScope s__law_bag, [], []⟩
def dd__law_bent_file : He.DefD := ⟨("_law_bent_file", none), "_law_bent_file", "_law_bent_file", defArgs s__law_bent_file, defBody s__law_bent_file, defScope s__law_bent_file, [], []⟩
def dd__law_bent_form : He.DefD := ⟨("_law_bent_form", none), "_law_bent_form", "_law_bent_form", defArgs s__law_bent_form, defBody s__law_bent_form, defScope s__law_bent_form, [], []⟩
def dd__law_equal : He.DefD := ⟨("_law_equal", none), "_law_equal", "_law_equal", defArgs s__law_equal, defBody s__law_equal, defScope s__law_equal, [], []⟩
def dd__law_is_sign : He.DefD := ⟨("_law_is_sign", none), "_law_is_sign", "_law_is_sign", defArgs s__law_is_sign, defBody s__law_is_sign, defScope s__law_is_sign, [], []⟩
def dd__law_is_form : He.DefD := ⟨("_law_is_form", none), "_law_is_form", "_law_is_form", defArgs s__law_is_form, defBody s__law_is_form, defScope s__law_is_form, [], []⟩
def dd__law_is_signs : He.DefD := ⟨("_law_is_signs", none), "_law_is_signs", "_law_is_signs", defArgs s__law_is_signs, defBody s__law_is_signs, defScope s__law_is_signs, [], []⟩
def dd__is_word : He.DefD := ⟨("_is_word", none), "_is_word", "_is_word", defArgs s__is_word, defBody s__is_word, defScope s__is_word, [], []⟩
def dd_is_integer : He.DefD := ⟨("is_integer", none), "is_integer", "is_integer", defArgs s_is_integer, defBody s_is_integer, defScope s_is_integer, [], []⟩
def dd_is_sign : He.DefD := ⟨("is_sign", none), "is_sign", "is_sign", defArgs s_is_sign, defBody s_is_sign, defScope s_is_sign, [], []⟩
def dd__is_tag : He.DefD := ⟨("_is_tag", none), "_is_tag", "_is_tag", defArgs s__is_tag, defBody s__is_tag, defScope s__is_tag, [], []⟩
def dd__are_tags : He.DefD := ⟨("_are_tags", none), "_are_tags", "_are_tags", defArgs s__are_tags, defBody s__are_tags, defScope s__are_tags, [], []⟩
def dd__is_head : He.DefD := ⟨("_is_head", none), "_is_head", "_is_head", defArgs s__is_head, defBody s__is_head, defScope s__is_head, [], []⟩
def dd_is_format : He.DefD := ⟨("is_format", none), "is_format", "is_format", defArgs s_is_format, defBody s_is_format, defScope s_is_format, [], []⟩
def dd_check_format : He.DefD := ⟨("check_format", none), "check_format", "check_format", defArgs s_check_format, defBody s_check_format, defScope s_check_format, [], []⟩
def dd_check_same_base : He.DefD := ⟨("check_same_base", none), "check_same_base", "check_same_base", defArgs s_check_same_base, defBody s_check_same_base, defScope s_check_same_base, [], []⟩
def dd_check_two_formats : He.DefD := ⟨("check_two_formats", none), "check_two_formats", "check_two_formats", defArgs s_check_two_formats, defBody s_check_two_formats, defScope s_check_two_formats, [], []⟩
def dd_behind_marks : He.DefD := ⟨("behind_marks", none), "behind_marks", "behind_marks", defArgs s_behind_marks, defBody s_behind_marks, defScope s_behind_marks, [], []⟩
def dd_first_stand : He.DefD := ⟨("first_stand", none), "first_stand", "first_stand", defArgs s_first_stand, defBody s_first_stand, defScope s_first_stand, [], []⟩
def dd_are_signs : He.DefD := ⟨("are_signs", none), "are_signs", "are_signs", defArgs s_are_signs, defBody s_are_signs, defScope s_are_signs, [], []⟩
def dd_is_file : He.DefD := ⟨("is_file", none), "is_file", "is_file", defArgs s_is_file, defBody s_is_file, defScope s_is_file, [], []⟩
def dd_law : He.DefD := ⟨("law", none), "law", "law", defArgs s_law, defBody s_law, defScope s_law, [], []⟩
def fn0 : List He.DefD := [dd_Reader___init__, dd_Pair___init__, dd__law_grab, dd__law_drawn_tags, dd__law_drawn_form, dd__law_any_form, dd__law_bag, dd__law_bent_file, dd__law_bent_form, dd__law_equal, dd__law_is_sign, dd__law_is_form, dd__law_is_signs, dd__is_word, dd_is_integer, dd_is_sign, dd__is_tag, dd__are_tags, dd__is_head, dd_is_format]
def fn1 : List He.DefD := [dd_check_format, dd_check_same_base, dd_check_two_formats, dd_behind_marks, dd_first_stand, dd_are_signs, dd_is_file, dd_law]
def fn : List He.DefD := fn0 ++ fn1
def ts : List He.Tab := []
def ex0 (K : PySem.W.Frag) : List Bool := [
  He.eqO (PySem.W.nsIn K mainGlobals "Reader") (some (some (.ref (He.ga K "Reader")))),
  PySem.W.makesIn K (He.ga K "Reader"),
  He.eqO (PySem.W.findIn K (.ref (He.ga K "Reader")) "__init__") (some (some (.ref (He.ma K (He.ga K "Reader") "__init__")))),
  PySem.W.isFn K (.ref (He.ma K (He.ga K "Reader") "__init__")),
  PySem.W.keepIn K (.ref (He.ga K "Reader")),
  PySem.W.plainGet K (He.ga K "Reader") Str.empty,
  PySem.W.hasDictIn K (He.ga K "Reader"),
  PySem.W.plainOver K (He.ga K "Reader"),
  He.eqO (PySem.W.findIn K (.ref (He.ga K "Reader")) "__setattr__") (some (some (.builtin "object.__setattr__"))),
  He.eqO (PySem.W.findIn K (.ref (He.ga K "Reader")) "_form") (some none),
  He.eqO (PySem.W.findIn K (.ref (He.ga K "Reader")) "_signs") (some none),
  He.eqO (PySem.W.findIn K (.ref (He.ga K "Reader")) "_along") (some none),
  He.eqO (PySem.W.findIn K (.ref (He.ga K "Reader")) "__class__") (some (some (.builtin "object.__class__"))),
  decide (PySem.W.mroIn K (He.ga K "Reader") (.type "object") = some true),
  decide (PySem.W.kitOne K (.ref (He.ga K "Reader")) (.type "int") = some false)]
def ex1 (K : PySem.W.Frag) : List Bool := [
  decide (PySem.W.kitOne K (.ref (He.ga K "Reader")) (.type "bool") = some false),
  decide (PySem.W.kitOne K (.ref (He.ga K "Reader")) (.type "str") = some false),
  decide (PySem.W.kitOne K (.ref (He.ga K "Reader")) (.type "list") = some false),
  decide (PySem.W.kitOne K (.ref (He.ga K "Reader")) (.type "tuple") = some false),
  decide (PySem.W.kitOne K (.ref (He.ga K "Reader")) (.type "dict") = some false),
  He.eqO (PySem.W.nsIn K mainGlobals "Pair") (some (some (.ref (He.ga K "Pair")))),
  PySem.W.makesIn K (He.ga K "Pair"),
  He.eqO (PySem.W.findIn K (.ref (He.ga K "Pair")) "__init__") (some (some (.ref (He.ma K (He.ga K "Pair") "__init__")))),
  PySem.W.isFn K (.ref (He.ma K (He.ga K "Pair") "__init__")),
  PySem.W.keepIn K (.ref (He.ga K "Pair")),
  PySem.W.plainGet K (He.ga K "Pair") Str.empty,
  PySem.W.hasDictIn K (He.ga K "Pair"),
  PySem.W.plainOver K (He.ga K "Pair"),
  He.eqO (PySem.W.findIn K (.ref (He.ga K "Pair")) "__setattr__") (some (some (.builtin "object.__setattr__"))),
  He.eqO (PySem.W.findIn K (.ref (He.ga K "Pair")) "_one") (some none)]
def ex2 (K : PySem.W.Frag) : List Bool := [
  He.eqO (PySem.W.findIn K (.ref (He.ga K "Pair")) "_other") (some none),
  He.eqO (PySem.W.findIn K (.ref (He.ga K "Pair")) "__class__") (some (some (.builtin "object.__class__"))),
  decide (PySem.W.mroIn K (He.ga K "Pair") (.type "object") = some true),
  decide (PySem.W.kitOne K (.ref (He.ga K "Pair")) (.type "int") = some false),
  decide (PySem.W.kitOne K (.ref (He.ga K "Pair")) (.type "bool") = some false),
  decide (PySem.W.kitOne K (.ref (He.ga K "Pair")) (.type "str") = some false),
  decide (PySem.W.kitOne K (.ref (He.ga K "Pair")) (.type "list") = some false),
  decide (PySem.W.kitOne K (.ref (He.ga K "Pair")) (.type "tuple") = some false),
  decide (PySem.W.kitOne K (.ref (He.ga K "Pair")) (.type "dict") = some false),
  He.eqO (PySem.W.specialIn K (.builtin "object.__class__") "__get__") (some (some (.builtin "getset_descriptor.__get__"))),
  decide (PySem.W.takesIn K (.builtin "object.__class__") = some true),
  He.eqO (PySem.W.nsIn K mainGlobals "abs") (some none),
  He.eqO (PySem.W.nsIn K mainGlobals "all") (some none),
  He.eqO (PySem.W.nsIn K mainGlobals "bool") (some none),
  He.eqO (PySem.W.nsIn K mainGlobals "int") (some none)]
def ex3 (K : PySem.W.Frag) : List Bool := [
  He.eqO (PySem.W.nsIn K mainGlobals "isinstance") (some none),
  He.eqO (PySem.W.nsIn K mainGlobals "len") (some none),
  He.eqO (PySem.W.nsIn K mainGlobals "list") (some none),
  He.eqO (PySem.W.nsIn K mainGlobals "max") (some none),
  He.eqO (PySem.W.nsIn K mainGlobals "min") (some none),
  He.eqO (PySem.W.nsIn K mainGlobals "range") (some none),
  He.eqO (PySem.W.nsIn K mainGlobals "str") (some none),
  He.eqO (PySem.W.nsIn K mainGlobals "tuple") (some none),
  He.eqO (PySem.W.nsIn K mainGlobals "BASE") (some (some (.int (0) (Hd.tokI (PySem.W.nsIn K mainGlobals "BASE"))))),
  He.eqO (PySem.W.nsIn K mainGlobals "HEAD") (some (some (.int (1) (Hd.tokI (PySem.W.nsIn K mainGlobals "HEAD"))))),
  He.eqO (PySem.W.nsIn K mainGlobals "TAG") (some (some (.ref (He.ga K "TAG")))),
  Hd.tuB K "TAG" ([(V.str "tag")]),
  He.eqO (PySem.W.nsIn K mainGlobals "USES") (some (some (.ref (He.ga K "USES")))),
  Hd.tuB K "USES" ([(V.str "keep"), (V.str "check"), (V.str "skip"), (V.str "end"), (V.str "stop")]),
  He.eqO (PySem.W.nsIn K mainGlobals "WIDTHS") (some (some (.ref (He.ga K "WIDTHS"))))]
def ex4 (K : PySem.W.Frag) : List Bool := [
  Hd.tuB K "WIDTHS" ([(V.str "one"), (V.str "high"), (V.str "low")]),
  He.eqO (PySem.W.nsIn K mainGlobals "_law_grab") (some (some (.ref (He.ga K "_law_grab")))),
  He.eqO (PySem.W.nsIn K mainGlobals "_law_drawn_tags") (some (some (.ref (He.ga K "_law_drawn_tags")))),
  He.eqO (PySem.W.nsIn K mainGlobals "_law_drawn_form") (some (some (.ref (He.ga K "_law_drawn_form")))),
  He.eqO (PySem.W.nsIn K mainGlobals "_law_any_form") (some (some (.ref (He.ga K "_law_any_form")))),
  He.eqO (PySem.W.nsIn K mainGlobals "_law_bag") (some (some (.ref (He.ga K "_law_bag")))),
  He.eqO (PySem.W.nsIn K mainGlobals "_law_bent_file") (some (some (.ref (He.ga K "_law_bent_file")))),
  He.eqO (PySem.W.nsIn K mainGlobals "_law_bent_form") (some (some (.ref (He.ga K "_law_bent_form")))),
  He.eqO (PySem.W.nsIn K mainGlobals "_law_equal") (some (some (.ref (He.ga K "_law_equal")))),
  He.eqO (PySem.W.nsIn K mainGlobals "_law_is_sign") (some (some (.ref (He.ga K "_law_is_sign")))),
  He.eqO (PySem.W.nsIn K mainGlobals "_law_is_form") (some (some (.ref (He.ga K "_law_is_form")))),
  He.eqO (PySem.W.nsIn K mainGlobals "_law_is_signs") (some (some (.ref (He.ga K "_law_is_signs")))),
  He.eqO (PySem.W.nsIn K mainGlobals "_is_word") (some (some (.ref (He.ga K "_is_word")))),
  He.eqO (PySem.W.nsIn K mainGlobals "is_integer") (some (some (.ref (He.ga K "is_integer")))),
  He.eqO (PySem.W.nsIn K mainGlobals "is_sign") (some (some (.ref (He.ga K "is_sign"))))]
def ex5 (K : PySem.W.Frag) : List Bool := [
  He.eqO (PySem.W.nsIn K mainGlobals "_is_tag") (some (some (.ref (He.ga K "_is_tag")))),
  He.eqO (PySem.W.nsIn K mainGlobals "_are_tags") (some (some (.ref (He.ga K "_are_tags")))),
  He.eqO (PySem.W.nsIn K mainGlobals "_is_head") (some (some (.ref (He.ga K "_is_head")))),
  He.eqO (PySem.W.nsIn K mainGlobals "is_format") (some (some (.ref (He.ga K "is_format")))),
  He.eqO (PySem.W.nsIn K mainGlobals "check_format") (some (some (.ref (He.ga K "check_format")))),
  He.eqO (PySem.W.nsIn K mainGlobals "check_same_base") (some (some (.ref (He.ga K "check_same_base")))),
  He.eqO (PySem.W.nsIn K mainGlobals "check_two_formats") (some (some (.ref (He.ga K "check_two_formats")))),
  He.eqO (PySem.W.nsIn K mainGlobals "behind_marks") (some (some (.ref (He.ga K "behind_marks")))),
  He.eqO (PySem.W.nsIn K mainGlobals "first_stand") (some (some (.ref (He.ga K "first_stand")))),
  He.eqO (PySem.W.nsIn K mainGlobals "are_signs") (some (some (.ref (He.ga K "are_signs")))),
  He.eqO (PySem.W.nsIn K mainGlobals "is_file") (some (some (.ref (He.ga K "is_file")))),
  He.eqO (PySem.W.nsIn K mainGlobals "law") (some (some (.ref (He.ga K "law"))))]
def exs (K : PySem.W.Frag) : Bool := (ex0 K).all id && (ex1 K).all id && (ex2 K).all id && (ex3 K).all id && (ex4 K).all id && (ex5 K).all id
abbrev hk : PySem.W.Hook := Hd.hookL fn ts exs
def ob (s : PySem.W.SharedT) : He.AlT × Bool := Hd.obL fn ts exs (HandSHeadRun.getT s)
theorem ob_eq (s : PySem.W.SharedT) : ob s = hk.obs s.abs := Hd.obL_eq (HandSHeadRun.getT_eq s)
open HandSHeadRun
theorem ra_false (w : World) (os : OsState) : Option.map (fun s => (looksF R.prog (PySem.W.boot_heap (w.withFollow "special-get-raises" false).params) s.abs, seenQ qv names (PySem.importedModules R.prog.main.body) (fun s => PySem.W.xlAt qv [] s && PySem.W.recOk R.records s) s.abs)) (endF (stepQ (denQ tabQ) R.prog (w.withFollow "special-get-raises" false)) 30000 R.prog (w.withFollow "special-get-raises" false) os) = some (true, PySem.W.openGood qv names) := by
  kernel_rfl
theorem rb_false (w : World) (os : OsState) : Option.map ob (endF (stepQ (denQ tabQ) R.prog (w.withFollow "special-get-raises" false)) 30000 R.prog (w.withFollow "special-get-raises" false) os) = some (hk.val (w.withFollow "special-get-raises" false)) := by
  kernel_rfl
theorem ra_true (w : World) (os : OsState) : Option.map (fun s => (looksF R.prog (PySem.W.boot_heap (w.withFollow "special-get-raises" true).params) s.abs, seenQ qv names (PySem.importedModules R.prog.main.body) (fun s => PySem.W.xlAt qv [] s && PySem.W.recOk R.records s) s.abs)) (endF (stepQ (denQ tabQ) R.prog (w.withFollow "special-get-raises" true)) 30000 R.prog (w.withFollow "special-get-raises" true) os) = some (true, PySem.W.openGood qv names) := by
  kernel_rfl
theorem rb_true (w : World) (os : OsState) : Option.map ob (endF (stepQ (denQ tabQ) R.prog (w.withFollow "special-get-raises" true)) 30000 R.prog (w.withFollow "special-get-raises" true) os) = some (hk.val (w.withFollow "special-get-raises" true)) := by
  kernel_rfl
theorem run (w : World) : HandSHeadRun.RunEq R qv hk ob 30000 names w := PySem.W.byRow2 "special-get-raises" (P := fun w => HandSHeadRun.RunEq R qv hk ob 30000 names w) (fun w => Hd.run_of (ra_false w) (rb_false w)) (fun w => Hd.run_of (ra_true w) (rb_true w)) w
end HdK01

set_option Elab.async false
set_option linter.all false
set_option maxRecDepth 100000
set_option maxHeartbeats 2000000
/-! a layer of data over the hand layer: values as trees (D), lists that one slot alone owns, readings that are functions of slots -/
namespace Dv
open PySem PySem.Spec PyProof.Rows L2

/-- things that are no trees: an empty dict, an instance of a class of one's own -/
inductive Od where
  | emp | ins (C : Addr)
inductive D where
  | non | bl (b : Bool) | int (i : Int) | str (x : Str) | lst (xs : List D) | tup (xs : List D) | frl (xs : List D) | dct (ks : List Str) (xs : List D) | op (v : V) | odd (o : Od)

abbrev AP := Addr → Prop

/-- a list that no one changes: locked, or of the written part -/
def FrL (K : PySem.W.Frag) (H : Hp) (a : Addr) (xs : List V) : Prop := (∃ o, H a = some (.frz o (.lst xs))) ∨
    ∃ (o : Obj) (its : Array Value) (n : Nat), K.lookup a = some o ∧ o.cls = .type "list" ∧ o.dict = none ∧ o.data = .seq its n ∧ its.size ≤ sizeLine ∧ Vals xs its.toList
theorem FrL.sq {K : PySem.W.Frag} {H : Hp} {a : Addr} {xs : List V} (h : FrL K H a xs) : SqL K H a xs := h.elim (fun h => .inl (.inr h)) .inr
theorem FrL.to {K : PySem.W.Frag} {H H' : Hp} {a : Addr} {xs : List V} (h : FrL K H a xs) (k : ∀ o, H a = some (.frz o (.lst xs)) → H' a = some (.frz o (.lst xs))) : FrL K H' a xs := h.imp (fun ⟨o, e⟩ => ⟨o, k o e⟩) id
/-- the built-in types that are asked for -/
def kinds0 : List String := ["int", "bool", "str", "list", "tuple", "dict"]
def OddAt (K : PySem.W.Frag) (H : Hp) (a : Addr) : Od → Prop
  | .emp => H a = some (.dT [])
  | .ins C => (∃ dx fs, H a = some (.ins C dx fs)) ∧ Cls K C ∧ PySem.W.findIn K (.ref C) "__class__" = some (some (.builtin "object.__class__")) ∧
      PySem.W.specialIn K (.builtin "object.__class__") "__get__" = some (some (.builtin "getset_descriptor.__get__")) ∧ PySem.W.takesIn K (.builtin "object.__class__") = some true ∧
      PySem.W.mroIn K C (.type "object") = some true ∧ ∀ n ∈ kinds0, PySem.W.kitOne K (.ref C) (.type n) = some false
def OddO (u : HO) : Prop := u = .dT [] ∨ ∃ C dx fs, u = .ins C dx fs
theorem OddO.lst {xs : List V} (h : OddO (.lst xs)) : False := by
  rcases h with h | ⟨_, _, _, h⟩ <;> cases h
theorem OddO.dK {kvs : List (Key × V)} (h : OddO (.dK kvs)) : False := by
  rcases h with h | ⟨_, _, _, h⟩ <;> cases h
theorem OddAt.to {K : PySem.W.Frag} {H H' : Hp} {a : Addr} : ∀ {o : Od}, OddAt K H a o → (∀ u, H a = some u → OddO u → H' a = some u) → OddAt K H' a o
  | .emp, h, k => k _ h (.inl rfl)
  | .ins _, ⟨⟨dx, fs, h⟩, r⟩, k => ⟨⟨dx, fs, k _ h (.inr ⟨_, _, _, rfl⟩)⟩, r⟩
mutual
def Rep (K : PySem.W.Frag) (H : Hp) (O : AP) : D → V → Prop
  | .non, v => v = .non
  | .bl b, v => v = .bl b
  | .int i, v => v = .int i
  | .str x, v => v = .str x
  | .lst ds, v => ∃ a xs, v = .ref a ∧ H a = some (.lst xs) ∧ ¬ O a ∧ Reps K H O ds xs
  | .tup ds, v => ∃ a xs, v = .ref a ∧ SqT K H a xs ∧ Reps K H O ds xs
  | .frl ds, v => ∃ a xs, v = .ref a ∧ FrL K H a xs ∧ Reps K H O ds xs
  | .dct ks ds, v => ∃ (a : Addr) (kvs : List (Key × V)), v = .ref a ∧ H a = some (.dK kvs) ∧ kvs ≠ [] ∧ kvs.map (·.1) = ks.map Sum.inr ∧ Reps K H O ds (kvs.map (·.2))
  | .op u, v => v = u
  | .odd o, v => ∃ a, v = .ref a ∧ OddAt K H a o
def Reps (K : PySem.W.Frag) (H : Hp) (O : AP) : List D → List V → Prop
  | [], vs => vs = []
  | d :: ds, vs => ∃ v r, vs = v :: r ∧ Rep K H O d v ∧ Reps K H O ds r
end

section
variable {K : PySem.W.Frag} {H H' : Hp} {O O' : AP}
theorem Reps.len : ∀ {ds : List D} {xs : List V}, Reps K H O ds xs → ds.length = xs.length
  | [], xs, h => by rw [Reps] at h; rw [h]; rfl
  | d :: ds, xs, h => by
    rw [Reps] at h
    obtain ⟨v, r, rfl, _, h2⟩ := h
    simp [Reps.len h2]
theorem Reps.get : ∀ {ds : List D} {xs : List V} {i : Nat} {d : D}, Reps K H O ds xs → ds[i]? = some d → ∃ v, xs[i]? = some v ∧ Rep K H O d v
  | [], xs, i, d, h, e => by simp at e
  | d :: ds, xs, 0, d', h, e => by
    rw [Reps] at h
    obtain ⟨v, r, rfl, h1, h2⟩ := h
    simp at e; subst e
    exact ⟨v, rfl, h1⟩
  | d :: ds, xs, i + 1, d', h, e => by
    rw [Reps] at h
    obtain ⟨v, r, rfl, h1, h2⟩ := h
    simp at e
    simpa using Reps.get (i := i) h2 e
theorem Reps.nil : Reps K H O [] [] := by rw [Reps]
theorem Reps.cons {d : D} {v : V} {ds : List D} {vs : List V} (h : Rep K H O d v) (h2 : Reps K H O ds vs) : Reps K H O (d :: ds) (v :: vs) := by
  rw [Reps]; exact ⟨v, vs, rfl, h, h2⟩
theorem Reps.of : ∀ {ds : List D} {xs : List V}, ds.length = xs.length → (∀ (i : Nat) (d : D) (v : V), ds[i]? = some d → xs[i]? = some v → Rep K H O d v) → Reps K H O ds xs
  | [], [], _, _ => .nil
  | [], _ :: _, h, _ => by simp at h
  | _ :: _, [], h, _ => by simp at h
  | d :: ds, v :: vs, h, f => .cons (f 0 d v rfl rfl) (Reps.of (by simpa using h) fun i d' v' e1 e2 => f (i + 1) d' v' (by simpa using e1) (by simpa using e2))
theorem Reps.append {ds es : List D} {xs ys : List V} (h : Reps K H O ds xs) (h2 : Reps K H O es ys) : Reps K H O (ds ++ es) (xs ++ ys) := by
  have l1 := h.len
  have l2 := h2.len
  refine Reps.of (by simp [l1, l2]) fun i d v e1 e2 => ?_
  by_cases hi : i < ds.length
  · rw [List.getElem?_append_left hi] at e1
    rw [List.getElem?_append_left (by omega)] at e2
    obtain ⟨u, q, r⟩ := h.get e1
    rw [e2] at q; cases q; exact r
  · rw [List.getElem?_append_right (by omega)] at e1
    rw [List.getElem?_append_right (by omega), ← l1] at e2
    obtain ⟨u, q, r⟩ := h2.get e1
    rw [e2] at q; cases q; exact r
theorem Reps.drop {ds : List D} {xs : List V} (n : Nat) (h : Reps K H O ds xs) : Reps K H O (ds.drop n) (xs.drop n) := by
  have l1 := h.len
  refine Reps.of (by simp [l1]) fun i d v e1 e2 => ?_
  rw [List.getElem?_drop] at e1 e2
  obtain ⟨u, q, r⟩ := h.get e1
  rw [e2] at q; cases q; exact r
theorem Reps.take {ds : List D} {xs : List V} (n : Nat) (h : Reps K H O ds xs) : Reps K H O (ds.take n) (xs.take n) := by
  have l1 := h.len
  refine Reps.of (by simp [l1]) fun i d v e1 e2 => ?_
  rw [List.getElem?_take] at e1 e2
  split at e1
  · rw [if_pos (by assumption)] at e2
    obtain ⟨u, q, r⟩ := h.get e1
    rw [e2] at q; cases q; exact r
  · cases e1
theorem Reps.set {ds : List D} {xs : List V} {d : D} {v : V} (i : Nat) (h : Reps K H O ds xs) (hv : Rep K H O d v) : Reps K H O (ds.set i d) (xs.set i v) := by
  have l1 := h.len
  refine Reps.of (by simp [l1]) fun j d' v' e1 e2 => ?_
  by_cases hj : i = j
  · subst hj
    have hlt : i < ds.length := by
      have := (List.getElem?_eq_some_iff.mp e1).1
      simpa using this
    rw [List.getElem?_set_self hlt] at e1
    rw [List.getElem?_set_self (by omega)] at e2
    cases e1; cases e2; exact hv
  · rw [List.getElem?_set_ne hj] at e1 e2
    obtain ⟨u, q, r⟩ := h.get e1
    rw [e2] at q; cases q; exact r

/-- what is laid out of O stays; O's are lists -/
def Kep (O : AP) (H H' : Hp) : Prop := ∀ b o, H b = some o → ¬ O b → H' b = some o
def OL (O : AP) (H : Hp) : Prop := ∀ a, O a → ∃ xs, H a = some (.lst xs)
mutual
theorem Rep.keep (k : Kep O H H') (ol : OL O H) (s : ∀ a, O' a → O a) : ∀ {d : D} {v : V}, Rep K H O d v → Rep K H' O' d v
  | .non, v, h => by rw [Rep] at h ⊢; exact h
  | .bl b, v, h => by rw [Rep] at h ⊢; exact h
  | .int b, v, h => by rw [Rep] at h ⊢; exact h
  | .str b, v, h => by rw [Rep] at h ⊢; exact h
  | .op b, v, h => by rw [Rep] at h ⊢; exact h
  | .odd o, v, h => by
    rw [Rep] at h ⊢
    obtain ⟨a, e, q⟩ := h
    exact ⟨a, e, q.to fun u hu nl => k a u hu fun z => by
      obtain ⟨ys, q'⟩ := ol a z
      rw [hu] at q'; cases q'; exact nl.lst⟩
  | .lst ds, v, h => by
    rw [Rep] at h ⊢
    obtain ⟨a, xs, e, ha, no, r⟩ := h
    exact ⟨a, xs, e, k a _ ha no, fun z => no (s a z), Reps.keep k ol s r⟩
  | .frl ds, v, h => by
    rw [Rep] at h ⊢
    obtain ⟨a, xs, e, ha, r⟩ := h
    refine ⟨a, xs, e, ha.to fun o ho => k a _ ho fun z => ?_, Reps.keep k ol s r⟩
    obtain ⟨ys, q⟩ := ol a z
    rw [ho] at q; cases q
  | .dct ks ds, v, h => by
    rw [Rep] at h ⊢
    obtain ⟨a, kvs, e, ha, ne, hk, r⟩ := h
    refine ⟨a, kvs, e, k a _ ha fun z => ?_, ne, hk, Reps.keep k ol s r⟩
    obtain ⟨ys, q⟩ := ol a z
    rw [ha] at q; cases q
  | .tup ds, v, h => by
    rw [Rep] at h ⊢
    obtain ⟨a, xs, e, ha, r⟩ := h
    refine ⟨a, xs, e, ?_, Reps.keep k ol s r⟩
    rcases ha with (q | ⟨o, q⟩) | q
    · refine .inl (.inl (k a _ q fun z => ?_))
      obtain ⟨ys, q'⟩ := ol a z
      rw [q] at q'; cases q'
    · refine .inl (.inr ⟨o, k a _ q fun z => ?_⟩)
      obtain ⟨ys, q'⟩ := ol a z
      rw [q] at q'; cases q'
    · exact .inr q
theorem Reps.keep (k : Kep O H H') (ol : OL O H) (s : ∀ a, O' a → O a) : ∀ {ds : List D} {vs : List V}, Reps K H O ds vs → Reps K H' O' ds vs
  | [], vs, h => by rw [Reps] at h ⊢; exact h
  | d :: ds, vs, h => by
    rw [Reps] at h ⊢
    obtain ⟨v, r, e, h1, h2⟩ := h
    exact ⟨v, r, e, Rep.keep k ol s h1, Reps.keep k ol s h2⟩
end
mutual
/-- an address that holds no list there may be added -/
theorem Rep.more {p : Addr} (hp : ∀ xs, H p ≠ some (.lst xs)) : ∀ {d : D} {v : V}, Rep K H O d v → Rep K H (fun a => a = p ∨ O a) d v
  | .non, v, h => by rw [Rep] at h ⊢; exact h
  | .bl b, v, h => by rw [Rep] at h ⊢; exact h
  | .int b, v, h => by rw [Rep] at h ⊢; exact h
  | .str b, v, h => by rw [Rep] at h ⊢; exact h
  | .op b, v, h => by rw [Rep] at h ⊢; exact h
  | .odd b, v, h => by rw [Rep] at h ⊢; exact h
  | .lst ds, v, h => by
    rw [Rep] at h ⊢
    obtain ⟨a, xs, e, ha, no, r⟩ := h
    refine ⟨a, xs, e, ha, fun z => ?_, Reps.more hp r⟩
    rcases z with z | z
    · subst z; exact hp _ ha
    · exact no z
  | .frl ds, v, h => by
    rw [Rep] at h ⊢
    obtain ⟨a, xs, e, ha, r⟩ := h
    exact ⟨a, xs, e, ha, Reps.more hp r⟩
  | .dct ks ds, v, h => by
    rw [Rep] at h ⊢
    obtain ⟨a, kvs, e, ha, ne, hk, r⟩ := h
    exact ⟨a, kvs, e, ha, ne, hk, Reps.more hp r⟩
  | .tup ds, v, h => by
    rw [Rep] at h ⊢
    obtain ⟨a, xs, e, ha, r⟩ := h
    exact ⟨a, xs, e, ha, Reps.more hp r⟩
theorem Reps.more {p : Addr} (hp : ∀ xs, H p ≠ some (.lst xs)) : ∀ {ds : List D} {vs : List V}, Reps K H O ds vs → Reps K H (fun a => a = p ∨ O a) ds vs
  | [], vs, h => by rw [Reps] at h ⊢; exact h
  | d :: ds, vs, h => by
    rw [Reps] at h ⊢
    obtain ⟨v, r, e, h1, h2⟩ := h
    exact ⟨v, r, e, Rep.more hp h1, Reps.more hp h2⟩
end
theorem Kep.refl : Kep O H H := fun _ _ h _ => h
mutual
theorem Rep.less (s : ∀ a, O' a → O a) : ∀ {d : D} {v : V}, Rep K H O d v → Rep K H O' d v
  | .non, v, h => by rw [Rep] at h ⊢; exact h
  | .bl b, v, h => by rw [Rep] at h ⊢; exact h
  | .int b, v, h => by rw [Rep] at h ⊢; exact h
  | .str b, v, h => by rw [Rep] at h ⊢; exact h
  | .op b, v, h => by rw [Rep] at h ⊢; exact h
  | .odd b, v, h => by rw [Rep] at h ⊢; exact h
  | .lst ds, v, h => by
    rw [Rep] at h ⊢
    obtain ⟨a, xs, e, ha, no, r⟩ := h
    exact ⟨a, xs, e, ha, fun z => no (s a z), Reps.less s r⟩
  | .frl ds, v, h => by
    rw [Rep] at h ⊢
    obtain ⟨a, xs, e, ha, r⟩ := h
    exact ⟨a, xs, e, ha, Reps.less s r⟩
  | .dct ks ds, v, h => by
    rw [Rep] at h ⊢
    obtain ⟨a, kvs, e, ha, ne, hk, r⟩ := h
    exact ⟨a, kvs, e, ha, ne, hk, Reps.less s r⟩
  | .tup ds, v, h => by
    rw [Rep] at h ⊢
    obtain ⟨a, xs, e, ha, r⟩ := h
    exact ⟨a, xs, e, ha, Reps.less s r⟩
theorem Reps.less (s : ∀ a, O' a → O a) : ∀ {ds : List D} {vs : List V}, Reps K H O ds vs → Reps K H O' ds vs
  | [], vs, h => by rw [Reps] at h ⊢; exact h
  | d :: ds, vs, h => by
    rw [Reps] at h ⊢
    obtain ⟨v, r, e, h1, h2⟩ := h
    exact ⟨v, r, e, Rep.less s h1, Reps.less s h2⟩
end
end

/-! ### slots -/
inductive Sl where
  | un | val (d : D) | own (ds : List D) | bor (ds : List D)
abbrev Ev := List Sl
def Sl.isOwn : Sl → Bool
  | .own _ => true
  | .bor _ => true
  | _ => false
/-- a def's frame: the heap at its entry, the addresses it was lent (at most one), those to be kept out of trees -/
structure Fc where
  K : PySem.W.Frag
  H0 : Hp
  B : Option Addr
  S : AP
  /-- values that are held beside the slots -/
  G : List (D × V)
def SlR (C : Fc) (O : AP) (H : Hp) : Sl → Option (Option V) → Prop
  | .un, _ => True
  | .val d, x => ∃ v, x = some (some v) ∧ Rep C.K H O d v
  | .own ds, x => ∃ a xs, x = some (some (.ref a)) ∧ H a = some (.lst xs) ∧ Reps C.K H O ds xs ∧ O a ∧ C.H0 a = none
  | .bor ds, x => ∃ a xs, x = some (some (.ref a)) ∧ H a = some (.lst xs) ∧ Reps C.K H O ds xs ∧ O a ∧ C.B = some a
/-- the address is a slot's own -/
def OwnA (σ : L2.St) (ρ : Ev) (a : Addr) : Prop := ∃ (i : Nat) (s : Sl), ρ[i]? = some s ∧ s.isOwn = true ∧ σ[i]? = some (some (.ref a))
structure FR (C : Fc) (O : AP) (σ : L2.St) (ρ : Ev) (H : Hp) : Prop where
  len : ρ.length = σ.length
  keep : ∀ b o, C.H0 b = some o → C.B ≠ some b → H b = some o
  mu : OL O H
  sub : ∀ a, C.S a → O a
  sdom : ∀ a, C.S a → ∃ xs, C.H0 a = some (.lst xs)
  bs : ∀ a, C.B = some a → C.S a
  slot : ∀ (i : Nat) (s : Sl), ρ[i]? = some s → SlR C O H s σ[i]?
  inj : ∀ (i j : Nat) (si sj : Sl) (a : Addr), ρ[i]? = some si → si.isOwn = true → ρ[j]? = some sj → sj.isOwn = true → σ[i]? = some (some (.ref a)) → σ[j]? = some (some (.ref a)) → i = j
  held : ∀ p, p ∈ C.G → Rep C.K H O p.1 p.2
/-- what an expression may do -/
structure Fw (O : AP) (σ : L2.St) (ρ : Ev) (H : Hp) (O' : AP) (ρ' : Ev) (H' : Hp) : Prop where
  kp : ∀ b o, H b = some o → ¬ OwnA σ ρ b → H' b = some o
  own : ∀ b, OwnA σ ρ' b → OwnA σ ρ b
  sub : ∀ a, O' a → O a
  stay : ∀ a, O a → O' a ∨ OwnA σ ρ a
section
variable {C : Fc} {O O' O2 : AP} {σ : L2.St} {ρ ρ' ρ2 : Ev} {H H' H2 : Hp}
theorem Fw.refl : Fw O σ ρ H O ρ H := ⟨fun _ _ h _ => h, fun _ h => h, fun _ h => h, fun _ h => .inl h⟩
theorem Fw.trans (a : Fw O σ ρ H O' ρ' H') (b : Fw O' σ ρ' H' O2 ρ2 H2) : Fw O σ ρ H O2 ρ2 H2 :=
  ⟨fun c o h n => b.kp c o (a.kp c o h n) fun z => n (a.own c z), fun c h => a.own c (b.own c h), fun c h => a.sub c (b.sub c h), fun c h => by
    rcases a.stay c h with z | z
    · rcases b.stay c z with y | y
      · exact .inl y
      · exact .inr (a.own c y)
    · exact .inr z⟩
theorem FR.ownO (F : FR C O σ ρ H) {a : Addr} (h : OwnA σ ρ a) : O a := by
  obtain ⟨i, s, e, p, q⟩ := h
  have z := F.slot i s e
  cases s with
  | un => cases p
  | val d => cases p
  | own ds =>
    obtain ⟨b, xs, e1, _, _, o, _⟩ := z
    rw [q] at e1; cases e1; exact o
  | bor ds =>
    obtain ⟨b, xs, e1, _, _, o, _⟩ := z
    rw [q] at e1; cases e1; exact o
theorem Fw.kep (a : Fw O σ ρ H O' ρ' H') (F : FR C O σ ρ H) : Kep O H H' := fun b o h n => a.kp b o h fun z => n (F.ownO z)
theorem Fw.rep (a : Fw O σ ρ H O' ρ' H') (F : FR C O σ ρ H) {d : D} {v : V} (r : Rep C.K H O d v) : Rep C.K H' O' d v := r.keep (a.kep F) F.mu a.sub
theorem Fw.reps (a : Fw O σ ρ H O' ρ' H') (F : FR C O σ ρ H) {d : List D} {v : List V} (r : Reps C.K H O d v) : Reps C.K H' O' d v := r.keep (a.kep F) F.mu a.sub
/-- a new object -/
theorem FR.laid {p : Addr} {o : HO} (F : FR C O σ ρ H) (hp : H p = none) : FR C O σ ρ (upd H p o) := by
  have kp : Kep O H (upd H p o) := fun b u e _ => by rw [upd_ne (ne_of_none e hp)]; exact e
  refine ⟨F.len, fun b u e n => ?_, fun a h => ?_, F.sub, F.sdom, F.bs, fun i s e => ?_, F.inj, fun p h => (F.held p h).keep kp F.mu fun _ h => h⟩
  · have q := F.keep b u e n
    rw [upd_ne (ne_of_none q hp)]; exact q
  · obtain ⟨xs, q⟩ := F.mu a h
    exact ⟨xs, by rw [upd_ne (ne_of_none q hp)]; exact q⟩
  · have z := F.slot i s e
    cases s with
    | un => trivial
    | val d => obtain ⟨v, e1, r⟩ := z; exact ⟨v, e1, r.keep kp F.mu fun _ h => h⟩
    | own ds =>
      obtain ⟨a, xs, e1, e2, r, oa, h0⟩ := z
      exact ⟨a, xs, e1, by rw [upd_ne (ne_of_none e2 hp)]; exact e2, r.keep kp F.mu fun _ h => h, oa, h0⟩
    | bor ds =>
      obtain ⟨a, xs, e1, e2, r, oa, h0⟩ := z
      exact ⟨a, xs, e1, by rw [upd_ne (ne_of_none e2 hp)]; exact e2, r.keep kp F.mu fun _ h => h, oa, h0⟩
theorem Fw.laid {p : Addr} {o : HO} (hp : H p = none) : Fw O σ ρ H O ρ (upd H p o) :=
  ⟨fun b u e _ => by rw [upd_ne (ne_of_none e hp)]; exact e, fun _ h => h, fun _ h => h, fun _ h => .inl h⟩
theorem FR.h0 {p : Addr} (F : FR C O σ ρ H) (hp : H p = none) : C.H0 p = none := by
  cases q : C.H0 p with
  | none => rfl
  | some o =>
    by_cases hb : C.B = some p
    · have z := F.sub p (F.bs p hb)
      obtain ⟨xs, e⟩ := F.mu p z
      rw [hp] at e; cases e
    · have := F.keep p o q hb
      rw [hp] at this; cases this
theorem FR.congr (F : FR C O σ ρ H) (h : ∀ a, O a ↔ O' a) : FR C O' σ ρ H := by
  have e : O = O' := funext fun a => propext (h a)
  exact e ▸ F
mutual
theorem Rep.fresh {K : PySem.W.Frag} {N : AP} (k : ∀ b o, H b = some o → H' b = some o) (hp : ∀ p, N p → H p = none) : ∀ {d : D} {v : V}, Rep K H O d v → Rep K H' (fun a => N a ∨ O a) d v
  | .non, v, h => by rw [Rep] at h ⊢; exact h
  | .bl b, v, h => by rw [Rep] at h ⊢; exact h
  | .int b, v, h => by rw [Rep] at h ⊢; exact h
  | .str b, v, h => by rw [Rep] at h ⊢; exact h
  | .op b, v, h => by rw [Rep] at h ⊢; exact h
  | .odd o, v, h => by
    rw [Rep] at h ⊢
    obtain ⟨a, e, q⟩ := h
    exact ⟨a, e, q.to fun u hu nl => k _ _ hu⟩
  | .lst ds, v, h => by
    rw [Rep] at h ⊢
    obtain ⟨a, xs, e, ha, no, r⟩ := h
    exact ⟨a, xs, e, k _ _ ha, fun z => z.elim (fun z => by rw [hp a z] at ha; cases ha) no, Reps.fresh k hp r⟩
  | .frl ds, v, h => by
    rw [Rep] at h ⊢
    obtain ⟨a, xs, e, ha, r⟩ := h
    exact ⟨a, xs, e, ha.to fun o ho => k _ _ ho, Reps.fresh k hp r⟩
  | .dct ks ds, v, h => by
    rw [Rep] at h ⊢
    obtain ⟨a, kvs, e, ha, ne, hk, r⟩ := h
    exact ⟨a, kvs, e, k _ _ ha, ne, hk, Reps.fresh k hp r⟩
  | .tup ds, v, h => by
    rw [Rep] at h ⊢
    obtain ⟨a, xs, e, ha, r⟩ := h
    refine ⟨a, xs, e, ?_, Reps.fresh k hp r⟩
    rcases ha with (q | ⟨o', q⟩) | q
    · exact .inl (.inl (k _ _ q))
    · exact .inl (.inr ⟨o', k _ _ q⟩)
    · exact .inr q
theorem Reps.fresh {K : PySem.W.Frag} {N : AP} (k : ∀ b o, H b = some o → H' b = some o) (hp : ∀ p, N p → H p = none) : ∀ {ds : List D} {vs : List V}, Reps K H O ds vs → Reps K H' (fun a => N a ∨ O a) ds vs
  | [], vs, h => by rw [Reps] at h ⊢; exact h
  | d :: ds, vs, h => by
    rw [Reps] at h ⊢
    obtain ⟨v, r, e, h1, h2⟩ := h
    exact ⟨v, r, e, Rep.fresh k hp h1, Reps.fresh k hp h2⟩
end
/-- all that was tracked is kept; new lists are kept out of all trees -/
theorem FR.grow {N : AP} (F : FR C O σ ρ H) (k : ∀ b o, H b = some o → H' b = some o) (hp : ∀ p, N p → H p = none) (hq : ∀ p, N p → ∃ xs, H' p = some (.lst xs)) : FR C (fun a => N a ∨ O a) σ ρ H' := by
  refine ⟨F.len, fun b o e n => k _ _ (F.keep b o e n), fun a h => ?_, fun a h => .inr (F.sub a h), F.sdom, F.bs, fun i s e => ?_, F.inj, fun p h => (F.held p h).fresh k hp⟩
  · rcases h with h | h
    · exact hq a h
    · obtain ⟨xs, e⟩ := F.mu a h
      exact ⟨xs, k _ _ e⟩
  · have z := F.slot i s e
    cases s with
    | un => trivial
    | val d => obtain ⟨v, e1, r⟩ := z; exact ⟨v, e1, r.fresh k hp⟩
    | own ds =>
      obtain ⟨a, ys, e1, e2, r, oa, h0⟩ := z
      exact ⟨a, ys, e1, k _ _ e2, r.fresh k hp, .inr oa, h0⟩
    | bor ds =>
      obtain ⟨a, ys, e1, e2, r, oa, h0⟩ := z
      exact ⟨a, ys, e1, k _ _ e2, r.fresh k hp, .inr oa, h0⟩
theorem FR.kept (F : FR C O σ ρ H) (k : ∀ b o, H b = some o → H' b = some o) : FR C O σ ρ H' :=
  (F.grow (N := fun _ => False) k (fun _ h => h.elim) (fun _ h => h.elim)).congr fun a => ⟨fun h => h.elim False.elim id, .inr⟩
theorem updK {p : Addr} {o : HO} (hp : H p = none) : ∀ b u, H b = some u → upd H p o b = some u := fun b u e => by rw [upd_ne (ne_of_none e hp)]; exact e
/-- a new list kept out of all trees -/
theorem FR.more {p : Addr} {xs : List V} (F : FR C O σ ρ H) (hp : H p = none) : FR C (fun a => a = p ∨ O a) σ ρ (upd H p (.lst xs)) :=
  F.grow (N := fun a => a = p) (updK hp) (fun q h => by rw [h]; exact hp) fun q h => ⟨xs, by rw [h]; exact upd_same⟩
/-- fewer addresses are kept out (none of those that the frame needs) -/
theorem FR.less (F : FR C O σ ρ H) (s : ∀ a, O' a → O a) (k : ∀ a, O a → O' a ∨ (¬ C.S a ∧ ¬ OwnA σ ρ a)) : FR C O' σ ρ H := by
  have ow : ∀ a, OwnA σ ρ a → O' a := fun a h => (k a (F.ownO h)).elim id fun z => absurd h z.2
  refine ⟨F.len, F.keep, fun a h => F.mu a (s a h), fun a h => (k a (F.sub a h)).elim id fun z => absurd h z.1, F.sdom, F.bs, fun i sl e => ?_, F.inj, fun p h => (F.held p h).less s⟩
  have z := F.slot i sl e
  cases sl with
  | un => trivial
  | val d => obtain ⟨v, e1, r⟩ := z; exact ⟨v, e1, r.less s⟩
  | own ds =>
    obtain ⟨a, ys, e1, e2, r, oa, h0⟩ := z
    exact ⟨a, ys, e1, e2, r.less s, ow a ⟨i, _, e, rfl, e1⟩, h0⟩
  | bor ds =>
    obtain ⟨a, ys, e1, e2, r, oa, h0⟩ := z
    exact ⟨a, ys, e1, e2, r.less s, ow a ⟨i, _, e, rfl, e1⟩, h0⟩
/-- what is held beside the slots may be forgotten, or more be held -/
theorem FR.hold {G : List (D × V)} (F : FR C O σ ρ H) (h : ∀ p, p ∈ G → Rep C.K H O p.1 p.2) : FR { C with G := G } O σ ρ H :=
  ⟨F.len, F.keep, F.mu, F.sub, F.sdom, F.bs, F.slot, F.inj, h⟩
/-- a slot that holds a value is stored -/
theorem FR.setv {i : Nat} {d : D} {v : V} (F : FR C O σ ρ H) (r : Rep C.K H O d v) : FR C O (σ.set i (some v)) (ρ.set i (.val d)) H := by
  refine ⟨by simpa using F.len, F.keep, F.mu, F.sub, F.sdom, F.bs, fun j s e => ?_, fun j l sj sl a ej oj el ol qj ql => ?_, F.held⟩
  · by_cases hj : i = j
    · subst hj
      have hi : i < ρ.length := by
        have := (List.getElem?_eq_some_iff.mp e).1
        simpa using this
      rw [List.getElem?_set_self hi] at e
      cases e
      exact ⟨v, by rw [List.getElem?_set_self (by rw [← F.len]; exact hi)], r⟩
    · rw [List.getElem?_set_ne hj] at e
      rw [List.getElem?_set_ne hj]
      exact F.slot j s e
  · have hj : i ≠ j := by
      rintro rfl
      have hi : i < ρ.length := by
        have := (List.getElem?_eq_some_iff.mp ej).1
        simpa using this
      rw [List.getElem?_set_self hi] at ej
      cases ej; cases oj
    have hl : i ≠ l := by
      rintro rfl
      have hi : i < ρ.length := by
        have := (List.getElem?_eq_some_iff.mp el).1
        simpa using this
      rw [List.getElem?_set_self hi] at el
      cases el; cases ol
    rw [List.getElem?_set_ne hj] at ej qj
    rw [List.getElem?_set_ne hl] at el ql
    exact F.inj j l sj sl a ej oj el ol qj ql
/-- a slot is forgotten -/
theorem FR.setun {i : Nat} {x : Option V} (F : FR C O σ ρ H) : FR C O (σ.set i x) (ρ.set i .un) H := by
  refine ⟨by simpa using F.len, F.keep, F.mu, F.sub, F.sdom, F.bs, fun j s e => ?_, fun j l sj sl a ej oj el ol qj ql => ?_, F.held⟩
  · by_cases hj : i = j
    · subst hj
      have hi : i < ρ.length := by
        have := (List.getElem?_eq_some_iff.mp e).1
        simpa using this
      rw [List.getElem?_set_self hi] at e
      cases e
      trivial
    · rw [List.getElem?_set_ne hj] at e
      rw [List.getElem?_set_ne hj]
      exact F.slot j s e
  · have hj : i ≠ j := by
      rintro rfl
      have hi : i < ρ.length := by
        have := (List.getElem?_eq_some_iff.mp ej).1
        simpa using this
      rw [List.getElem?_set_self hi] at ej
      cases ej; cases oj
    have hl : i ≠ l := by
      rintro rfl
      have hi : i < ρ.length := by
        have := (List.getElem?_eq_some_iff.mp el).1
        simpa using this
      rw [List.getElem?_set_self hi] at el
      cases el; cases ol
    rw [List.getElem?_set_ne hj] at ej qj
    rw [List.getElem?_set_ne hl] at el ql
    exact F.inj j l sj sl a ej oj el ol qj ql
/-- a new list that this slot alone owns: it was kept out of all trees, and no slot's own -/
theorem FR.setown {i : Nat} {p : Addr} {ds : List D} {xs : List V} (F : FR C O σ ρ H) (hp : H p = some (.lst xs)) (r : Reps C.K H O ds xs) (o : O p) (h0 : C.H0 p = none) (no : ¬ OwnA σ ρ p) :
    FR C O (σ.set i (some (.ref p))) (ρ.set i (.own ds)) H := by
  refine ⟨by simpa using F.len, F.keep, F.mu, F.sub, F.sdom, F.bs, fun j s e => ?_, fun j l sj sl a ej oj el ol qj ql => ?_, F.held⟩
  · by_cases hj : i = j
    · subst hj
      have hi : i < ρ.length := by
        have := (List.getElem?_eq_some_iff.mp e).1
        simpa using this
      rw [List.getElem?_set_self hi] at e
      cases e
      exact ⟨p, xs, by rw [List.getElem?_set_self (by rw [← F.len]; exact hi)], hp, r, o, h0⟩
    · rw [List.getElem?_set_ne hj] at e
      rw [List.getElem?_set_ne hj]
      exact F.slot j s e
  · by_cases hj : i = j
    · by_cases hl : i = l
      · exact hj.symm.trans hl
      · subst hj
        have hi : i < σ.length := by
          have := (List.getElem?_eq_some_iff.mp qj).1
          simpa using this
        rw [List.getElem?_set_self hi] at qj
        cases qj
        rw [List.getElem?_set_ne hl] at el ql
        exact absurd ⟨l, sl, el, ol, ql⟩ no
    · by_cases hl : i = l
      · subst hl
        have hi : i < σ.length := by
          have := (List.getElem?_eq_some_iff.mp ql).1
          simpa using this
        rw [List.getElem?_set_self hi] at ql
        cases ql
        rw [List.getElem?_set_ne hj] at ej qj
        exact absurd ⟨j, sj, ej, oj, qj⟩ no
      · rw [List.getElem?_set_ne hj] at ej qj
        rw [List.getElem?_set_ne hl] at el ql
        exact F.inj j l sj sl a ej oj el ol qj ql
/-- an own list is changed (own or lent) -/
def Sl.put : Sl → List D → Sl
  | .own _, ds => .own ds
  | .bor _, ds => .bor ds
  | s, _ => s
theorem FR.write {i : Nat} {s : Sl} {p : Addr} {ds : List D} {xs : List V} (F : FR C O σ ρ H) (e : ρ[i]? = some s) (ow : s.isOwn = true) (q : σ[i]? = some (some (.ref p))) (r : Reps C.K (upd H p (.lst xs)) O ds xs) :
    FR C O σ (ρ.set i (s.put ds)) (upd H p (.lst xs)) := by
  have hi : i < ρ.length := (List.getElem?_eq_some_iff.mp e).1
  have op : O p := F.ownO ⟨i, s, e, ow, q⟩
  have kp : Kep O H (upd H p (.lst xs)) := fun b u h n => by rw [upd_ne (fun z : b = p => n (by rw [z]; exact op))]; exact h
  have z0 := F.slot i s e
  have hps : C.H0 p = none ∨ C.B = some p := by
    cases s with
    | un => cases ow
    | val d => cases ow
    | own ds => obtain ⟨a, zs, e1, _, _, _, h0⟩ := z0; rw [q] at e1; cases e1; exact .inl h0
    | bor ds => obtain ⟨a, zs, e1, _, _, _, h0⟩ := z0; rw [q] at e1; cases e1; exact .inr h0
  refine ⟨by simpa using F.len, fun b u h n => ?_, fun a h => ?_, F.sub, F.sdom, F.bs, fun j t et => ?_, fun j l sj sl a ej oj el ol qj ql => ?_, fun g h => (F.held g h).keep kp F.mu fun _ h => h⟩
  · have : b ≠ p := by
      rintro rfl
      rcases hps with z | z
      · rw [h] at z; cases z
      · exact n z
    rw [upd_ne this]
    exact F.keep b u h n
  · by_cases ha : a = p
    · subst ha; exact ⟨xs, upd_same⟩
    · rw [upd_ne ha]; exact F.mu a h
  · by_cases hj : i = j
    · subst hj
      rw [List.getElem?_set_self hi] at et
      cases et
      cases s with
      | un => cases ow
      | val d => cases ow
      | own _ =>
        obtain ⟨a, zs, e1, _, _, oa, h0⟩ := z0; rw [q] at e1; cases e1
        exact ⟨p, xs, q, upd_same, r, oa, h0⟩
      | bor _ =>
        obtain ⟨a, zs, e1, _, _, oa, h0⟩ := z0; rw [q] at e1; cases e1
        exact ⟨p, xs, q, upd_same, r, oa, h0⟩
    · rw [List.getElem?_set_ne hj] at et
      have z := F.slot j t et
      cases t with
      | un => trivial
      | val d => obtain ⟨v, e1, r⟩ := z; exact ⟨v, e1, r.keep kp F.mu fun _ h => h⟩
      | own es =>
        obtain ⟨a, zs, e1, e2, r, oa, h0⟩ := z
        have : a ≠ p := fun h => hj (F.inj i j s _ p e ow et rfl q (h ▸ e1))
        exact ⟨a, zs, e1, by rw [upd_ne this]; exact e2, r.keep kp F.mu fun _ h => h, oa, h0⟩
      | bor es =>
        obtain ⟨a, zs, e1, e2, r, oa, h0⟩ := z
        have : a ≠ p := fun h => hj (F.inj i j s _ p e ow et rfl q (h ▸ e1))
        exact ⟨a, zs, e1, by rw [upd_ne this]; exact e2, r.keep kp F.mu fun _ h => h, oa, h0⟩
  · have own' : ∀ (m : Nat) (sm : Sl), (ρ.set i (s.put ds))[m]? = some sm → sm.isOwn = true → ∃ tm, ρ[m]? = some tm ∧ tm.isOwn = true := fun m sm em om => by
      by_cases hm : i = m
      · subst hm; exact ⟨s, e, ow⟩
      · rw [List.getElem?_set_ne hm] at em; exact ⟨sm, em, om⟩
    obtain ⟨tj, a1, a2⟩ := own' j sj ej oj
    obtain ⟨tl, b1, b2⟩ := own' l sl el ol
    exact F.inj j l tj tl a a1 a2 b1 b2 qj ql
theorem Fw.write {i : Nat} {s : Sl} {p : Addr} {ds : List D} {u : HO} (e : ρ[i]? = some s) (ow : s.isOwn = true) (q : σ[i]? = some (some (.ref p))) : Fw O σ ρ H O (ρ.set i (s.put ds)) (upd H p u) := by
  refine ⟨fun b o h n => ?_, fun b h => ?_, fun _ h => h, fun _ h => .inl h⟩
  · rw [upd_ne (fun z : b = p => n (by rw [z]; exact ⟨i, s, e, ow, q⟩))]; exact h
  · obtain ⟨j, t, a1, a2, a3⟩ := h
    by_cases hj : i = j
    · subst hj; exact ⟨i, s, e, ow, a3⟩
    · rw [List.getElem?_set_ne hj] at a1; exact ⟨j, t, a1, a2, a3⟩
/-- a slot's own list becomes a value like others -/
theorem FR.freeze {i : Nat} {p : Addr} {ds : List D} (F : FR C O σ ρ H) (e : ρ[i]? = some (.own ds)) (q : σ[i]? = some (some (.ref p))) :
    FR C (fun a => O a ∧ a ≠ p) σ (ρ.set i (.val (.lst ds))) H ∧ Fw O σ ρ H (fun a => O a ∧ a ≠ p) (ρ.set i (.val (.lst ds))) H := by
  have hi : i < ρ.length := (List.getElem?_eq_some_iff.mp e).1
  obtain ⟨a, xs, e1, e2, r, oa, h0⟩ := F.slot i _ e
  rw [q] at e1; cases e1
  have ls : ∀ a, (O a ∧ a ≠ p) → O a := fun _ h => h.1
  refine ⟨⟨by simpa using F.len, F.keep, fun a h => F.mu a h.1, fun a h => ⟨F.sub a h, ?_⟩, F.sdom, F.bs, fun j t et => ?_, fun j l sj sl a ej oj el ol qj ql => ?_, fun g h => (F.held g h).less ls⟩, ⟨fun b o h _ => h, fun b h => ?_, ls, fun a h => ?_⟩⟩
  · rintro rfl
    obtain ⟨ys, z⟩ := F.sdom a h
    rw [h0] at z; cases z
  · by_cases hj : i = j
    · subst hj
      rw [List.getElem?_set_self hi] at et
      cases et
      refine ⟨.ref p, q, ?_⟩
      rw [Rep]
      exact ⟨p, xs, rfl, e2, fun z => z.2 rfl, r.less ls⟩
    · rw [List.getElem?_set_ne hj] at et
      have z := F.slot j t et
      cases t with
      | un => trivial
      | val d => obtain ⟨v, e1, r⟩ := z; exact ⟨v, e1, r.less ls⟩
      | own es =>
        obtain ⟨a, zs, f1, f2, r, oa', h0'⟩ := z
        have : a ≠ p := fun h => hj (F.inj i j _ _ p e rfl et rfl q (h ▸ f1))
        exact ⟨a, zs, f1, f2, r.less ls, ⟨oa', this⟩, h0'⟩
      | bor es =>
        obtain ⟨a, zs, f1, f2, r, oa', h0'⟩ := z
        have : a ≠ p := fun h => hj (F.inj i j _ _ p e rfl et rfl q (h ▸ f1))
        exact ⟨a, zs, f1, f2, r.less ls, ⟨oa', this⟩, h0'⟩
  · have own' : ∀ (m : Nat) (sm : Sl), (ρ.set i (.val (.lst ds)))[m]? = some sm → sm.isOwn = true → ρ[m]? = some sm := fun m sm em om => by
      by_cases hm : i = m
      · subst hm; rw [List.getElem?_set_self hi] at em; cases em; cases om
      · rw [List.getElem?_set_ne hm] at em; exact em
    exact F.inj j l sj sl a (own' j sj ej oj) oj (own' l sl el ol) ol qj ql
  · obtain ⟨j, t, a1, a2, a3⟩ := h
    by_cases hm : i = j
    · subst hm; rw [List.getElem?_set_self hi] at a1; cases a1; cases a2
    · rw [List.getElem?_set_ne hm] at a1; exact ⟨j, t, a1, a2, a3⟩
  · by_cases ha : a = p
    · subst ha; exact .inr ⟨i, _, e, rfl, q⟩
    · exact .inl ⟨h, ha⟩
end
end Dv

set_option Elab.async false
set_option linter.all false
set_option maxRecDepth 100000
set_option maxHeartbeats 2000000
/-! readings that are functions of the slots: expressions, tests, arguments -/
namespace Dv
open PySem PySem.Spec PyProof.Rows L2

theorem _root_.L2.PE.imp {X : Cx} {e : Expr} {t t' : TE} (h : PE X e t) (i : ∀ σ H Q, t' σ H Q → t σ H Q) : PE X e t' := ⟨fun pins s σ H Q I q => h.run pins s σ H Q I (i σ H Q q)⟩
theorem _root_.L2.PT.imp {X : Cx} {e : Expr} {t t' : TT} (h : PT X e t) (i : ∀ σ H Q, t' σ H Q → t σ H Q) : PT X e t' := ⟨fun pins s σ H Q I q => h.run pins s σ H Q I (i σ H Q q)⟩
theorem _root_.L2.PW.imp {X : Cx} {e : Expr} {t t' : TT} (h : PW X e t) (i : ∀ σ H Q, t' σ H Q → t σ H Q) : PW X e t' := ⟨fun wh pins s σ H Q I q => h.run wh pins s σ H Q I (i σ H Q q)⟩
theorem _root_.L2.PA.imp {X : Cx} {e : List Expr} {t t' : TA} (h : PA X e t) (i : ∀ σ H Q, t' σ H Q → t σ H Q) : PA X e t' := ⟨fun pos pins s σ H Q I q => h.run pos pins s σ H Q I (i σ H Q q)⟩
theorem _root_.L2.PS.imp {X : Cx} {e : Stmt} {t t' : TS} (h : PS X e t) (i : ∀ D σ H, t' D σ H → t D σ H) : PS X e t' := ⟨fun pins s σ H D I q => h.run pins s σ H D I (i D σ H q)⟩
theorem _root_.L2.PSs.imp {X : Cx} {e : List Stmt} {t t' : TS} (h : PSs X e t) (i : ∀ D σ H, t' D σ H → t D σ H) : PSs X e t' := ⟨fun pins s σ H D I q => h.run pins s σ H D I (i D σ H q)⟩
theorem _root_.L2.PI.imp {X : Cx} {tg e : Expr} {t t' : TI} (h : PI X tg e t) (i : ∀ σ H R, t' σ H R → t σ H R) : PI X tg e t' := ⟨fun pins s σ H R I q => h.run pins s σ H R I (i σ H R q)⟩

inductive Opd where
  | d (x : D) | nw (ds : List D) | sl (i : Nat)
abbrev FE := Ev → Option (Opd × Ev)
def OpR (C : Fc) (O : AP) (σ : L2.St) (ρ : Ev) (H : Hp) (v : V) : Opd → Prop
  | .d x => Rep C.K H O x v
  | .nw ds => ∃ a xs, v = .ref a ∧ H a = some (.lst xs) ∧ C.H0 a = none ∧ ¬ O a ∧ FR C (fun b => b = a ∨ O b) σ ρ H ∧ Reps C.K H (fun b => b = a ∨ O b) ds xs
  | .sl i => (∃ s, ρ[i]? = some s ∧ s.isOwn = true) ∧ σ[i]? = some (some v)
/-- .. later -/
def OpW (C : Fc) (O : AP) (σ : L2.St) (H : Hp) (v : V) : Opd → Prop
  | .d x => Rep C.K H O x v
  | .nw ds => Rep C.K H O (.lst ds) v
  | .sl i => σ[i]? = some (some v)
def tF (K : PySem.W.Frag) (f : FE) : TE := fun σ H Q => ∃ C O ρ o ρ', C.K = K ∧ FR C O σ ρ H ∧ f ρ = some (o, ρ') ∧
  ∀ v H' O', FR C O' σ ρ' H' → Fw O σ ρ H O' ρ' H' → OpR C O' σ ρ' H' v o → Q v H'
def slD : Option Sl → Option D
  | some (.own ds) => some (.lst ds)
  | some (.bor ds) => some (.lst ds)
  | some (.val d) => some d
  | _ => none
def der (ρ : Ev) : Opd → Option D
  | .d x => some x
  | .nw ds => some (.lst ds)
  | .sl i => slD ρ[i]?
/-- what may be read as a tree at its top -/
def Vw (K : PySem.W.Frag) (H : Hp) (O : AP) : D → V → Prop
  | .lst ds, v => ∃ a xs, v = .ref a ∧ H a = some (.lst xs) ∧ Reps K H O ds xs
  | d, v => Rep K H O d v
section
variable {C : Fc} {O O' : AP} {σ : L2.St} {ρ ρ' : Ev} {H H' : Hp} {v : V} {o : Opd} {x : D}
theorem Vw.of {K : PySem.W.Frag} (r : Rep K H O x v) : Vw K H O x v := by
  cases x with
  | lst ds => rw [Rep] at r; obtain ⟨a, xs, e, h, _, q⟩ := r; exact ⟨a, xs, e, h, q⟩
  | _ => exact r
theorem OpR.w (h : OpR C O σ ρ H v o) : OpW C O σ H v o := by
  cases o with
  | d x => exact h
  | nw ds =>
    obtain ⟨a, xs, e, h1, h0, no, F, r⟩ := h
    show Rep C.K H O (.lst ds) v
    rw [Rep]
    exact ⟨a, xs, e, h1, no, r.less fun _ h => .inr h⟩
  | sl i => exact h.2
theorem OpW.fw (h : OpW C O σ H v o) (F : FR C O σ ρ H) (w : Fw O σ ρ H O' ρ' H') : OpW C O' σ H' v o := by
  cases o with
  | d x => exact w.rep F h
  | nw ds => exact w.rep F h
  | sl i => exact h
theorem OpW.vw (h : OpW C O σ H v o) (F : FR C O σ ρ H) (e : der ρ o = some x) : Vw C.K H O x v := by
  cases o with
  | d y => cases e; exact Vw.of h
  | nw ds => cases e; exact Vw.of h
  | sl i =>
    have h : σ[i]? = some (some v) := h
    have e : slD ρ[i]? = some x := e
    cases q : ρ[i]? with
    | none => rw [q] at e; cases e
    | some s =>
      rw [q] at e
      cases s with
      | un => cases e
      | own ds =>
        cases e
        obtain ⟨a, xs, e1, e2, r, _⟩ := F.slot i _ q
        rw [h] at e1; cases e1
        exact ⟨a, xs, rfl, e2, r⟩
      | bor ds =>
        cases e
        obtain ⟨a, xs, e1, e2, r, _⟩ := F.slot i _ q
        rw [h] at e1; cases e1
        exact ⟨a, xs, rfl, e2, r⟩
      | val d =>
        cases e
        obtain ⟨u, e1, r⟩ := F.slot i _ q
        rw [h] at e1; cases e1
        exact Vw.of r
def escS (i : Nat) (ρ : Ev) : Option Sl → Option (D × Ev)
  | some (.own ds) => some (.lst ds, ρ.set i (.val (.lst ds)))
  | some (.val d) => some (d, ρ)
  | _ => none
/-- it is told from now on as a value: an own list is given up -/
def esc : Opd → Ev → Option (D × Ev)
  | .d x, ρ => some (x, ρ)
  | .nw ds, ρ => some (.lst ds, ρ)
  | .sl i, ρ => escS i ρ ρ[i]?
theorem esc_ok (h : OpW C O σ H v o) (F : FR C O σ ρ H) (e : esc o ρ = some (x, ρ')) : ∃ O', FR C O' σ ρ' H ∧ Fw O σ ρ H O' ρ' H ∧ Rep C.K H O' x v := by
  cases o with
  | d y => cases e; exact ⟨O, F, .refl, h⟩
  | nw ds => cases e; exact ⟨O, F, .refl, h⟩
  | sl i =>
    have h : σ[i]? = some (some v) := h
    have e : escS i ρ ρ[i]? = some (x, ρ') := e
    cases q : ρ[i]? with
    | none => rw [q] at e; cases e
    | some s =>
      rw [q] at e
      cases s with
      | un => cases e
      | bor ds => cases e
      | own ds =>
        cases e
        obtain ⟨a, xs, e1, e2, r, _⟩ := F.slot i _ q
        rw [h] at e1; cases e1
        obtain ⟨G, w⟩ := F.freeze q h
        refine ⟨_, G, w, ?_⟩
        rw [Rep]
        exact ⟨a, xs, rfl, e2, fun z => z.2 rfl, r.less fun _ h => h.1⟩
      | val d =>
        cases e
        obtain ⟨u, e1, r⟩ := F.slot i _ q
        rw [h] at e1; cases e1
        exact ⟨O, F, .refl, r⟩
theorem OpR.d (r : Rep C.K H O x v) : OpR C O σ ρ H v (.d x) := r
/-- a new list -/
theorem OpR.new {p : Addr} {xs : List V} {ds : List D} (F : FR C O σ ρ H) (hp : H p = none) (r : Reps C.K H O ds xs) : OpR C O σ ρ (upd H p (.lst xs)) (.ref p) (.nw ds) := by
  refine ⟨p, xs, rfl, upd_same, F.h0 hp, fun z => ?_, F.more hp, r.fresh (N := fun a => a = p) (updK hp) fun q h => by rw [h]; exact hp⟩
  obtain ⟨ys, q⟩ := F.mu p z
  rw [hp] at q; cases q
end

/-! ### names, constants -/
def nmS (i : Nat) : Option Sl → Option Opd
  | some (.val d) => some (.d d)
  | some (.own _) => some (.sl i)
  | some (.bor _) => some (.sl i)
  | _ => none
def fName (i : Nat) : FE := fun ρ => (nmS i ρ[i]?).bind fun o => some (o, ρ)
def fC (x : D) : FE := fun ρ => some (.d x, ρ)
section
variable {X : Cx} {e a b : Expr} {fa fb : FE} {pos : Pos} {K : PySem.W.Frag}
theorem tName {i : Nat} {σ : L2.St} {H : Hp} {Q : VK} (h : tF K (fName i) σ H Q) : tVar i σ H Q := by
  obtain ⟨C, O, ρ, o, ρ', ek, F, e, q⟩ := h
  unfold fName at e
  cases h : ρ[i]? with
  | none => rw [h] at e; cases e
  | some s =>
    rw [h] at e
    cases s with
    | un => cases e
    | val d =>
      cases e
      obtain ⟨v, e1, r⟩ := F.slot i _ h
      exact ⟨v, e1, q v H O F .refl r⟩
    | own d =>
      cases e
      obtain ⟨a, xs, e1, _⟩ := F.slot i _ h
      exact ⟨_, e1, q _ H O F .refl ⟨⟨_, h, rfl⟩, e1⟩⟩
    | bor d =>
      cases e
      obtain ⟨a, xs, e1, _⟩ := F.slot i _ h
      exact ⟨_, e1, q _ H O F .refl ⟨⟨_, h, rfl⟩, e1⟩⟩
theorem dv (i : Nat) {x : Str} (hN : X.N[i]? = some x := by rfl) (hv : Vis X.env.scope x := by first | exact Or.inl rfl | exact Or.inr (Or.inl rfl) | exact Or.inr (Or.inr rfl)) (hd : (x == ("__debug__" : Str)) = false := by decide)
    (hcd : (x == ("__classdict__" : Str)) = false := by decide) : PE X (.Name x pos) (tF X.K (fName i)) := (pe_var hN hv hd hcd).imp fun _ _ _ h => tName h
theorem tConst {x : D} {u : V} (r : ∀ H O, Rep K H O x u) {σ : L2.St} {H : Hp} {Q : VK} (h : tF K (fC x) σ H Q) : tC u σ H Q := by
  obtain ⟨C, O, ρ, o, ρ', ek, F, e, q⟩ := h
  cases e
  exact q u H O F .refl (by rw [← ek] at r; exact r H O)
theorem d_int {i : Int} {j : Nat} : PE X (.Constant (.int i) j pos) (tF X.K (fC (.int i))) := pe_int.imp fun _ _ _ h => tConst (fun _ _ => by rw [Rep]) h
theorem d_bl {b : Bool} {j : Nat} : PE X (.Constant (.bool b) j pos) (tF X.K (fC (.bl b))) := pe_bl.imp fun _ _ _ h => tConst (fun _ _ => by rw [Rep]) h
theorem d_non {j : Nat} : PE X (.Constant .none j pos) (tF X.K (fC .non)) := pe_non.imp fun _ _ _ h => tConst (fun _ _ => by rw [Rep]) h
theorem d_str {x : Str} {j : Nat} : PE X (.Constant (.str x) j pos) (tF X.K (fC (.str x))) := pe_str.imp fun _ _ _ h => tConst (fun _ _ => by rw [Rep]) h
/-- a module's name that holds a datum: an int, a text, a written tuple of such -/
structure Glo (K : PySem.W.Frag) (mg : Str → Option Value) (x : Str) (d : D) : Prop where
  ex : ∃ u v, mg x = some u ∧ RelV v u ∧ ∀ H O, Rep K H O d v
theorem d_glob {x : Str} {d : D} (g : Glo X.K X.mg x d) (hg : Gl X x := by rfl) (hd : (x == ("__debug__" : Str)) = false := by decide) : PE X (.Name x pos) (tF X.K (fC d)) := by
  obtain ⟨u, v, hm, r, q⟩ := g.ex
  exact (pe_glob hg hm r hd).imp fun _ _ _ h => tConst q h
/-- a built-in type's name as a value -/
theorem d_ty {x : Str} {n : String} (hm : X.mg x = none) (hv : bootBuiltins x = some (.type n)) (hg : Gl X x := by rfl) (hn : x ≠ "__name__" := by decide) (hd : (x == ("__debug__" : Str)) = false := by decide) :
    PE X (.Name x pos) (tF X.K (fC (.op (.ty n)))) := (pe_bltn (v := .ty n) hg hm hv rfl hn hd).imp fun _ _ _ h => tConst (fun _ _ => by rw [Rep]) h

/-! ### two operands -/
def fBin (g : D → D → Option Opd) (fa fb : FE) : FE := fun ρ => (fa ρ).bind fun p => (fb p.2).bind fun q => (der q.2 p.1).bind fun x => (der q.2 q.1).bind fun y => (g x y).bind fun z => some (z, q.2)
def rD (K : PySem.W.Frag) (g : D → D → Option Opd) : R2 := fun u v H Q => ∃ C O σ ρ x y z, C.K = K ∧ FR C O σ ρ H ∧ Vw K H O x u ∧ Vw K H O y v ∧ g x y = some z ∧
  ∀ w H' O', FR C O' σ ρ H' → Fw O σ ρ H O' ρ H' → OpR C O' σ ρ H' w z → Q w H'
theorem tBin {g : D → D → Option Opd} {σ : L2.St} {H : Hp} {Q : VK} (h : tF K (fBin g fa fb) σ H Q) : tOp (rD K g) (tF K fa) (tF K fb) σ H Q := by
  obtain ⟨C, O, ρ, o, ρ', ek, F, e, q⟩ := h
  unfold fBin at e
  cases ea : fa ρ with
  | none => rw [ea] at e; cases e
  | some p =>
    obtain ⟨o1, ρ1⟩ := p
    rw [ea] at e
    cases eb : fb ρ1 with
    | none => simp [eb] at e
    | some p2 =>
      obtain ⟨o2, ρ2⟩ := p2
      simp only [Option.bind_some, eb] at e
      cases ex : der ρ2 o1 with
      | none => simp [ex] at e
      | some x =>
        simp only [ex, Option.bind_some] at e
        cases ey : der ρ2 o2 with
        | none => simp [ey] at e
        | some y =>
          simp only [ey, Option.bind_some] at e
          cases ez : g x y with
          | none => simp [ez] at e
          | some z =>
            simp only [ez, Option.bind_some] at e
            cases e
            refine ⟨C, O, ρ, o1, ρ1, ek, F, ea, fun u H1 O1 F1 w1 r1 => ?_⟩
            refine ⟨C, O1, ρ1, o2, ρ', ek, F1, eb, fun v H2 O2 F2 w2 r2 => ?_⟩
            refine ⟨C, O2, σ, ρ', x, y, o, ek, F2, ?_, ?_, ez, fun w H3 O3 F3 w3 r3 => q w H3 O3 F3 ((w1.trans w2).trans w3) r3⟩
            · rw [← ek]; exact (r1.w.fw F1 w2).vw F2 ex
            · rw [← ek]; exact r2.w.vw F2 ey
/-- an operator over data -/
abbrev OpD (X : Cx) (f : Value → Value → Sem Value) (g : D → D → Option Opd) : Prop := L2.OpR X f (rD X.K g)
theorem d_op {op : Operator} {g : D → D → Option Opd} (ho : OpD X (binaryOp op) g) (ha : PE X a (tF X.K fa)) (hb : PE X b (tF X.K fb)) : PE X (.BinOp a op b pos) (tF X.K (fBin g fa fb)) :=
  (pe_op ho ha hb).imp fun _ _ _ h => tBin h
theorem d_cmp {op : CmpOp} {g : D → D → Option Opd} (ho : OpD X (compareOp op) g) (ha : PE X a (tF X.K fa)) (hb : PE X b (tF X.K fb)) (hm : behindInMarks op b = false := by first | rfl | exact nomark _) : PE X (.Compare a [op] [b] pos) (tF X.K (fBin g fa fb)) :=
  (pe_cmpR ho ha hb hm).imp fun _ _ _ h => tBin h
theorem d_ix {g : D → D → Option Opd} (ho : IxR X (rD X.K g)) (ha : PE X a (tF X.K fa)) (hb : PE X b (tF X.K fb)) (hs : PlainIx b := by first | exact fun _ _ => rfl | (intro _ _; rfl)) : PE X (.Subscript a b pos) (tF X.K (fBin g fa fb)) :=
  (pe_ix ho ha hb hs).imp fun _ _ _ h => tBin h
end

/-! ### tests -/
abbrev FT := Ev → Option (Bool × Ev)
def tT (K : PySem.W.Frag) (f : FT) : TT := fun σ H Q => ∃ C O ρ b ρ', C.K = K ∧ FR C O σ ρ H ∧ f ρ = some (b, ρ') ∧ ∀ H' O', FR C O' σ ρ' H' → Fw O σ ρ H O' ρ' H' → Q b H'
def asB : Opd × Ev → Option (Bool × Ev)
  | (.d (.bl b), ρ) => some (b, ρ)
  | _ => none
def fTest (f : FE) : FT := fun ρ => (f ρ).bind asB
section
variable {X : Cx} {e a b : Expr} {fa fb f : FE} {ft fu : FT} {pos : Pos} {K : PySem.W.Frag} {σ : L2.St} {H : Hp}
theorem tTst {Q : Bool → Hp → Prop} (h : tT K (fTest f) σ H Q) : tF K f σ H fun x H1 => ∃ c, x = .bl c ∧ Q c H1 := by
  obtain ⟨C, O, ρ, b, ρ', ek, F, e, q⟩ := h
  unfold fTest at e
  cases ea : f ρ with
  | none => rw [ea] at e; cases e
  | some p =>
    rw [ea, Option.bind_some] at e
    unfold asB at e
    split at e
    · rename_i b' ρ2
      cases e
      refine ⟨C, O, ρ, _, _, ek, F, ea, fun v H1 O1 F1 w r => ⟨b, ?_, q H1 O1 F1 w⟩⟩
      have r : Rep C.K H1 O1 (.bl b) v := r
      rw [Rep] at r; exact r
    · cases e
theorem t_val (h : PE X e (tF X.K f)) (he : ∀ whole, isTrue e X.env whole = (do let v ← whole; standAt e.pos; holding [v] (truthy v)) := by intro _; rfl) : PT X e (tT X.K (fTest f)) :=
  (pt_val h he).imp fun _ _ _ h => tTst h
theorem t_cmp {op : CmpOp} {g : D → D → Option Opd} (ho : OpD X (compareOp op) g) (ha : PE X a (tF X.K fa)) (hb : PE X b (tF X.K fb)) (hm : behindInMarks op b = false := by first | rfl | exact nomark _) : PT X (.Compare a [op] [b] pos) (tT X.K (fTest (fBin g fa fb))) :=
  (pt_cmpR ho ha hb hm).imp fun _ _ _ h => by
    obtain ⟨C, O, ρ, o, ρ', ek, F, e, q⟩ := tTst h
    exact tBin ⟨C, O, ρ, o, ρ', ek, F, e, q⟩
def fAnd (ft fu : FT) : FT := fun ρ => (ft ρ).bind fun p => if p.1 then fu p.2 else some (false, p.2)
def fOr (ft fu : FT) : FT := fun ρ => (ft ρ).bind fun p => if p.1 then some (true, p.2) else fu p.2
def fNot (ft : FT) : FT := fun ρ => (ft ρ).bind fun p => some (!p.1, p.2)
theorem tAnd' {Q : Bool → Hp → Prop} (h : tT K (fAnd ft fu) σ H Q) : tAnd (tT K ft) (tT K fu) σ H Q := by
  obtain ⟨C, O, ρ, b, ρ', ek, F, e, q⟩ := h
  unfold fAnd at e
  cases ea : ft ρ with
  | none => rw [ea] at e; cases e
  | some p =>
    obtain ⟨c, ρ1⟩ := p
    rw [ea, Option.bind_some] at e
    refine ⟨C, O, ρ, c, ρ1, ek, F, ea, fun H1 O1 F1 w => ?_⟩
    cases c with
    | true => exact ⟨C, O1, ρ1, b, ρ', ek, F1, e, fun H2 O2 F2 w2 => q H2 O2 F2 (w.trans w2)⟩
    | false => cases e; exact q H1 O1 F1 w
theorem tOr' {Q : Bool → Hp → Prop} (h : tT K (fOr ft fu) σ H Q) : tOr (tT K ft) (tT K fu) σ H Q := by
  obtain ⟨C, O, ρ, b, ρ', ek, F, e, q⟩ := h
  unfold fOr at e
  cases ea : ft ρ with
  | none => rw [ea] at e; cases e
  | some p =>
    obtain ⟨c, ρ1⟩ := p
    rw [ea, Option.bind_some] at e
    refine ⟨C, O, ρ, c, ρ1, ek, F, ea, fun H1 O1 F1 w => ?_⟩
    cases c with
    | false => exact ⟨C, O1, ρ1, b, ρ', ek, F1, e, fun H2 O2 F2 w2 => q H2 O2 F2 (w.trans w2)⟩
    | true => cases e; exact q H1 O1 F1 w
theorem tNot' {Q : Bool → Hp → Prop} (h : tT K (fNot ft) σ H Q) : tNot (tT K ft) σ H Q := by
  obtain ⟨C, O, ρ, b, ρ', ek, F, e, q⟩ := h
  unfold fNot at e
  cases ea : ft ρ with
  | none => rw [ea] at e; cases e
  | some p =>
    obtain ⟨c, ρ1⟩ := p
    rw [ea, Option.bind_some] at e
    cases e
    exact ⟨C, O, ρ, c, ρ1, ek, F, ea, fun H1 O1 F1 w => q H1 O1 F1 w⟩
variable {rest : List Expr}
theorem t_and (ha : PT X a (tT X.K ft)) (hb : PW X (.BoolOp .And (b :: rest) pos) (tT X.K fu)) : PW X (.BoolOp .And (a :: b :: rest) pos) (tT X.K (fAnd ft fu)) := (pw_and ha hb).imp fun _ _ _ h => tAnd' h
theorem t_or (ha : PT X a (tT X.K ft)) (hb : PW X (.BoolOp .Or (b :: rest) pos) (tT X.K fu)) : PW X (.BoolOp .Or (a :: b :: rest) pos) (tT X.K (fOr ft fu)) := (pw_or ha hb).imp fun _ _ _ h => tOr' h
theorem t_not (ha : PT X a (tT X.K ft)) : PT X (.UnaryOp .Not a pos) (tT X.K (fNot ft)) := (pt_not ha).imp fun _ _ _ h => tNot' h
/-- not, and, or as values: bools -/
def fBl (ft : FT) : FE := fun ρ => (ft ρ).bind fun p => some (.d (.bl p.1), p.2)
def fNotV (f : FE) : FE := fBl (fNot (fTest f))
theorem d_not (ha : PE X a (tF X.K f)) : PE X (.UnaryOp .Not a pos) (tF X.K (fNotV f)) := (pe_not ha).imp fun σ H Q h => by
  obtain ⟨C, O, ρ, o, ρ', ek, F, e, q⟩ := h
  have h2 : tT X.K (fNot (fTest f)) σ H fun b H' => Q (.bl b) H' := by
    unfold fNotV fBl at e
    cases ea : fNot (fTest f) ρ with
    | none => rw [ea] at e; cases e
    | some p =>
      rw [ea, Option.bind_some] at e
      cases e
      exact ⟨C, O, ρ, p.1, p.2, ek, F, ea, fun H' O' F' w => q _ H' O' F' w (by show Rep _ _ _ _ _; rw [Rep])⟩
  exact tTst (tNot' h2)
def fAndV (f : FE) (g : FE) : FE := fun ρ => ((f ρ).bind asB).bind fun p => if p.1 then g p.2 else some (.d (.bl false), p.2)
def fOrV (f : FE) (g : FE) : FE := fun ρ => ((f ρ).bind asB).bind fun p => if p.1 then some (.d (.bl true), p.2) else g p.2
theorem d_and (ha : PE X a (tF X.K fa)) (hb : PE X (.BoolOp .And (b :: rest) pos) (tF X.K fb)) : PE X (.BoolOp .And (a :: b :: rest) pos) (tF X.K (fAndV fa fb)) := (pe_and ha hb).imp fun σ H Q h => by
  obtain ⟨C, O, ρ, o, ρ', ek, F, e, q⟩ := h
  unfold fAndV at e
  cases ea : (fa ρ).bind asB with
  | none => rw [ea] at e; cases e
  | some p =>
    obtain ⟨c, ρ1⟩ := p
    rw [ea, Option.bind_some] at e
    refine tTst (f := fa) (Q := fun c H1 => if c = true then tF X.K fb σ H1 Q else Q (.bl false) H1) ⟨C, O, ρ, c, ρ1, ek, F, ea, fun H1 O1 F1 w => ?_⟩
    cases c with
    | true => exact ⟨C, O1, ρ1, o, ρ', ek, F1, e, fun v H2 O2 F2 w2 r => q v H2 O2 F2 (w.trans w2) r⟩
    | false => cases e; exact q _ H1 O1 F1 w (by show Rep _ _ _ _ _; rw [Rep])
theorem d_or (ha : PE X a (tF X.K fa)) (hb : PE X (.BoolOp .Or (b :: rest) pos) (tF X.K fb)) : PE X (.BoolOp .Or (a :: b :: rest) pos) (tF X.K (fOrV fa fb)) := (pe_or ha hb).imp fun σ H Q h => by
  obtain ⟨C, O, ρ, o, ρ', ek, F, e, q⟩ := h
  unfold fOrV at e
  cases ea : (fa ρ).bind asB with
  | none => rw [ea] at e; cases e
  | some p =>
    obtain ⟨c, ρ1⟩ := p
    rw [ea, Option.bind_some] at e
    refine tTst (f := fa) (Q := fun c H1 => if c = true then Q (.bl true) H1 else tF X.K fb σ H1 Q) ⟨C, O, ρ, c, ρ1, ek, F, ea, fun H1 O1 F1 w => ?_⟩
    cases c with
    | false => exact ⟨C, O1, ρ1, o, ρ', ek, F1, e, fun v H2 O2 F2 w2 r => q v H2 O2 F2 (w.trans w2) r⟩
    | true => cases e; exact q _ H1 O1 F1 w (by show Rep _ _ _ _ _; rw [Rep])
/-- a if t else b -/
def fIf (ft : FT) (fa fb : FE) : FE := fun ρ => (ft ρ).bind fun p => if p.1 then fa p.2 else fb p.2
theorem d_if {c : Expr} (hc : PT X c (tT X.K ft)) (ha : PE X a (tF X.K fa)) (hb : PE X b (tF X.K fb)) : PE X (.IfExp c a b pos) (tF X.K (fIf ft fa fb)) := (pe_ifExp hc ha hb).imp fun σ H Q h => by
  obtain ⟨C, O, ρ, o, ρ', ek, F, e, q⟩ := h
  unfold fIf at e
  cases ea : ft ρ with
  | none => rw [ea] at e; cases e
  | some p =>
    obtain ⟨c, ρ1⟩ := p
    rw [ea, Option.bind_some] at e
    refine ⟨C, O, ρ, c, ρ1, ek, F, ea, fun H1 O1 F1 w => ?_⟩
    cases c with
    | true => exact ⟨C, O1, ρ1, o, ρ', ek, F1, e, fun v H2 O2 F2 w2 r => q v H2 O2 F2 (w.trans w2) r⟩
    | false => exact ⟨C, O1, ρ1, o, ρ', ek, F1, e, fun v H2 O2 F2 w2 r => q v H2 O2 F2 (w.trans w2) r⟩
end

/-! ### argument lists -/
abbrev FA := Ev → Option (List Opd × Ev)
inductive OpWs (C : Fc) (O : AP) (σ : L2.St) (H : Hp) : List V → List Opd → Prop
  | nil : OpWs C O σ H [] []
  | cons {v : V} {o : Opd} {vs : List V} {os : List Opd} : OpW C O σ H v o → OpWs C O σ H vs os → OpWs C O σ H (v :: vs) (o :: os)
def tAr (K : PySem.W.Frag) (f : FA) : TA := fun σ H Q => ∃ C O ρ os ρ', C.K = K ∧ FR C O σ ρ H ∧ f ρ = some (os, ρ') ∧ ∀ vs H' O', FR C O' σ ρ' H' → Fw O σ ρ H O' ρ' H' → OpWs C O' σ H' vs os → Q vs H'
def aNil : FA := fun ρ => some ([], ρ)
def aCons (f : FE) (g : FA) : FA := fun ρ => (f ρ).bind fun p => (g p.2).bind fun q => some (p.1 :: q.1, q.2)
section
variable {X : Cx} {e a b : Expr} {es : List Expr} {f : FE} {g : FA} {pos : Pos} {K : PySem.W.Frag} {σ : L2.St} {H : Hp}
theorem a_nil : PA X [] (tAr X.K aNil) := pa_nil.imp fun σ H Q h => by
  obtain ⟨C, O, ρ, o, ρ', ek, F, e, q⟩ := h
  cases e
  exact q [] H O F .refl .nil
theorem OpWs.fw {C : Fc} {O O' : AP} {ρ ρ' : Ev} {H' : Hp} {vs : List V} {os : List Opd} (h : OpWs C O σ H vs os) (F : FR C O σ ρ H) (w : Fw O σ ρ H O' ρ' H') : OpWs C O' σ H' vs os := by
  induction h with
  | nil => exact .nil
  | cons a _ ih => exact .cons (a.fw F w) ih
theorem a_cons (ha : PE X e (tF X.K f)) (hr : PA X es (tAr X.K g)) (hs : starEach (e :: es) X.env = (false, eval e X.env) :: starEach es X.env := by rfl) : PA X (e :: es) (tAr X.K (aCons f g)) := (pa_cons ha hr hs).imp fun σ H Q h => by
  obtain ⟨C, O, ρ, o, ρ', ek, F, e, q⟩ := h
  unfold aCons at e
  cases ea : f ρ with
  | none => rw [ea] at e; cases e
  | some p =>
    obtain ⟨o1, ρ1⟩ := p
    rw [ea, Option.bind_some] at e
    cases eb : g ρ1 with
    | none => simp only [eb] at e; cases e
    | some p2 =>
      obtain ⟨os, ρ2⟩ := p2
      simp only [eb, Option.bind_some] at e
      cases e
      refine ⟨C, O, ρ, o1, ρ1, ek, F, ea, fun v H1 O1 F1 w r => ?_⟩
      exact ⟨C, O1, ρ1, os, ρ', ek, F1, eb, fun vs H2 O2 F2 w2 r2 => q (v :: vs) H2 O2 F2 (w.trans w2) (.cons (r.w.fw F1 w2) r2)⟩
/-! displays -/
def escs : List Opd → Ev → Option (List D × Ev)
  | [], ρ => some ([], ρ)
  | o :: os, ρ => (esc o ρ).bind fun p => (escs os p.2).bind fun q => some (p.1 :: q.1, q.2)
theorem escs_ok {C : Fc} : ∀ {os : List Opd} {vs : List V} {O : AP} {ρ ρ' : Ev} {ds : List D}, OpWs C O σ H vs os → FR C O σ ρ H → escs os ρ = some (ds, ρ') → ∃ O', FR C O' σ ρ' H ∧ Fw O σ ρ H O' ρ' H ∧ Reps C.K H O' ds vs
  | [], vs, O, ρ, ρ', ds, h, F, e => by
    cases h; cases e
    exact ⟨O, F, .refl, .nil⟩
  | o :: os, vs, O, ρ, ρ', ds, h, F, e => by
    cases h with
    | cons h1 h2 =>
      unfold escs at e
      cases ea : esc o ρ with
      | none => rw [ea] at e; cases e
      | some p =>
        obtain ⟨d, ρ1⟩ := p
        rw [ea, Option.bind_some] at e
        cases eb : escs os ρ1 with
        | none => simp only [eb] at e; cases e
        | some q =>
          obtain ⟨ds', ρ2⟩ := q
          simp only [eb, Option.bind_some] at e
          cases e
          obtain ⟨O1, F1, w1, r1⟩ := esc_ok h1 F ea
          obtain ⟨O2, F2, w2, r2⟩ := escs_ok (h2.fw F w1) F1 eb
          exact ⟨O2, F2, w1.trans w2, .cons (w2.rep F1 r1) r2⟩
def fTup (g : FA) : FE := fun ρ => (g ρ).bind fun p => (escs p.1 p.2).bind fun q => if q.1.length ≤ 16777216 then some (.d (.tup q.1), q.2) else none
def fLst (g : FA) : FE := fun ρ => (g ρ).bind fun p => (escs p.1 p.2).bind fun q => if q.1.length ≤ 16777216 then some (.nw q.1, q.2) else none
theorem d_tup {x1 : Nat} (h : PA X es (tAr X.K g)) : PE X (.Tuple es x1 pos) (tF X.K (fTup g)) := (pe_tup h).imp fun σ H Q h => by
  obtain ⟨C, O, ρ, o, ρ', ek, F, e, q⟩ := h
  unfold fTup at e
  cases ea : g ρ with
  | none => rw [ea] at e; cases e
  | some p =>
    obtain ⟨os, ρ1⟩ := p
    rw [ea, Option.bind_some] at e
    cases eb : escs os ρ1 with
    | none => simp only [eb] at e; cases e
    | some q =>
      obtain ⟨ds, ρ2⟩ := q
      simp only [eb, Option.bind_some] at e
      split at e
      · rename_i hl
        cases e
        refine ⟨C, O, ρ, os, ρ1, ek, F, ea, fun vs H1 O1 F1 w r => ?_⟩
        obtain ⟨O2, F2, w2, r2⟩ := escs_ok r F1 eb
        refine ⟨by rw [← r2.len]; rw [sizeLine_eq]; exact hl, fun p hp => q _ _ O2 (F2.laid hp) ((w.trans w2).trans (Fw.laid hp)) ?_⟩
        show Rep C.K _ _ (.tup _) _
        rw [Rep]
        exact ⟨p, vs, rfl, .inl (.inl upd_same), r2.keep (fun b u e _ => updK hp b u e) F2.mu fun _ h => h⟩
      · cases e
theorem d_lst (h : PA X es (tAr X.K g)) : PE X (.List es pos) (tF X.K (fLst g)) := (pe_lst h).imp fun σ H Q h => by
  obtain ⟨C, O, ρ, o, ρ', ek, F, e, q⟩ := h
  unfold fLst at e
  cases ea : g ρ with
  | none => rw [ea] at e; cases e
  | some p =>
    obtain ⟨os, ρ1⟩ := p
    rw [ea, Option.bind_some] at e
    cases eb : escs os ρ1 with
    | none => simp only [eb] at e; cases e
    | some q =>
      obtain ⟨ds, ρ2⟩ := q
      simp only [eb, Option.bind_some] at e
      split at e
      · rename_i hl
        cases e
        refine ⟨C, O, ρ, os, ρ1, ek, F, ea, fun vs H1 O1 F1 w r => ?_⟩
        obtain ⟨O2, F2, w2, r2⟩ := escs_ok r F1 eb
        exact ⟨by rw [← r2.len]; rw [sizeLine_eq]; exact hl, fun p hp => q _ _ O2 (F2.laid hp) ((w.trans w2).trans (Fw.laid hp)) (OpR.new F2 hp r2)⟩
      · cases e
end
end Dv

set_option Elab.async false
set_option linter.all false
set_option maxRecDepth 100000
set_option maxHeartbeats 2000000
/-! operators, built-ins and calls over data -/
namespace Dv
open PySem PySem.Spec PyProof.Rows L2

section
variable {X : Cx} {K : PySem.W.Frag} {H : Hp} {O : AP} {v : V}
theorem rp_int {i : Int} (h : Rep K H O (.int i) v) : v = .int i := by rw [Rep] at h; exact h
theorem rp_str {i : Str} (h : Rep K H O (.str i) v) : v = .str i := by rw [Rep] at h; exact h
theorem rp_bl {i : Bool} (h : Rep K H O (.bl i) v) : v = .bl i := by rw [Rep] at h; exact h
theorem rp_non (h : Rep K H O .non v) : v = .non := by rw [Rep] at h; exact h
theorem rp_op {u : V} (h : Rep K H O (.op u) v) : v = u := by rw [Rep] at h; exact h
theorem rp_tup {ds : List D} (h : Rep K H O (.tup ds) v) : ∃ a xs, v = .ref a ∧ SqT K H a xs ∧ Reps K H O ds xs := by rw [Rep] at h; exact h
theorem rp_frl {ds : List D} (h : Rep K H O (.frl ds) v) : ∃ a xs, v = .ref a ∧ FrL K H a xs ∧ Reps K H O ds xs := by rw [Rep] at h; exact h
theorem vw_int {i : Int} (h : Vw K H O (.int i) v) : v = .int i := rp_int (K := K) (H := H) (O := O) h
theorem vw_str {i : Str} (h : Vw K H O (.str i) v) : v = .str i := rp_str (K := K) (H := H) (O := O) h
theorem vw_bl {i : Bool} (h : Vw K H O (.bl i) v) : v = .bl i := rp_bl (K := K) (H := H) (O := O) h
theorem vw_non (h : Vw K H O .non v) : v = .non := rp_non (K := K) (H := H) (O := O) h
theorem vw_tup {ds : List D} (h : Vw K H O (.tup ds) v) : ∃ a xs, v = .ref a ∧ SqT K H a xs ∧ Reps K H O ds xs := rp_tup (K := K) (H := H) (O := O) h
theorem vw_frl {ds : List D} (h : Vw K H O (.frl ds) v) : ∃ a xs, v = .ref a ∧ FrL K H a xs ∧ Reps K H O ds xs := rp_frl (K := K) (H := H) (O := O) h
theorem mk_int {i : Int} : Rep K H O (.int i) (.int i) := by rw [Rep]
theorem mk_bl {i : Bool} : Rep K H O (.bl i) (.bl i) := by rw [Rep]
theorem mk_str {i : Str} : Rep K H O (.str i) (.str i) := by rw [Rep]
theorem mk_tup {ds : List D} {a : Addr} {xs : List V} (h : SqT K H a xs) (r : Reps K H O ds xs) : Rep K H O (.tup ds) (.ref a) := by rw [Rep]; exact ⟨a, xs, rfl, h, r⟩
section
variable {C : Fc} {σ : L2.St} {ρ : Ev}
theorem or_int {i : Int} : OpR C O σ ρ H (.int i) (.d (.int i)) := mk_int (K := C.K) (H := H) (O := O)
theorem or_str {i : Str} : OpR C O σ ρ H (.str i) (.d (.str i)) := mk_str (K := C.K) (H := H) (O := O)
theorem or_bl {i : Bool} : OpR C O σ ρ H (.bl i) (.d (.bl i)) := mk_bl (K := C.K) (H := H) (O := O)
theorem or_tup {ds : List D} {a : Addr} {xs : List V} (h : SqT C.K H a xs) (r : Reps C.K H O ds xs) : OpR C O σ ρ H (.ref a) (.d (.tup ds)) := mk_tup h r
end
/-- the items of a list or a tuple -/
def items : D → Option (List D)
  | .lst ds => some ds
  | .tup ds => some ds
  | .frl ds => some ds
  | _ => none
theorem vw_items {x : D} {ds : List D} (h : Vw K H O x v) (e : items x = some ds) : ∃ a xs, v = .ref a ∧ (SqL K H a xs ∨ SqT K H a xs) ∧ Reps K H O ds xs := by
  cases x with
  | lst es => cases e; obtain ⟨a, xs, h1, h2, r⟩ := h; exact ⟨a, xs, h1, .inl (.inl (.inl h2)), r⟩
  | tup es => cases e; obtain ⟨a, xs, h1, h2, r⟩ := vw_tup h; exact ⟨a, xs, h1, .inr h2, r⟩
  | frl es => cases e; obtain ⟨a, xs, h1, h2, r⟩ := vw_frl h; exact ⟨a, xs, h1, .inl h2.sq, r⟩
  | _ => cases e
end

/-! ### arithmetic -/
def gAdd : D → D → Option Opd
  | .int i, .int j => some (.d (.int (i + j)))
  | .str x, .str y => if x.length + y.length ≤ 16777216 then some (.d (.str (x ++ y))) else none
  | .lst x, .lst y => if x.length + y.length ≤ 16777216 then some (.nw (x ++ y)) else none
  | .tup x, .tup y => if x.length + y.length ≤ 16777216 then some (.d (.tup (x ++ y))) else none
  | _, _ => none
def gSub : D → D → Option Opd
  | .int i, .int j => some (.d (.int (i - j)))
  | _, _ => none
def gMul : D → D → Option Opd
  | .int i, .int j => if i.natAbs.log2 + j.natAbs.log2 < 1000000 then some (.d (.int (i * j))) else none
  | .lst x, .int k => if -(2 ^ 63) ≤ k ∧ k < 2 ^ 63 ∧ x.length * k.toNat ≤ 16777216 then some (.nw (List.replicate k.toNat x).flatten) else none
  | _, _ => none
def gMod : D → D → Option Opd
  | .int i, .int j => if 0 < j then some (.d (.int (i % j))) else none
  | _, _ => none
def gDiv : D → D → Option Opd
  | .int i, .int j => if 0 < j ∧ j.natAbs.log2 < 9000 then some (.d (.int (i / j))) else none
  | _, _ => none
def gPow : D → D → Option Opd
  | .int i, .int j => if 0 ≤ j ∧ ((i.natAbs.log2 + 1 : Nat) : Int) * j ≤ 134217728 then some (.d (.int (i ^ j.toNat))) else none
  | _, _ => none
section
variable {X : Cx}
theorem some_if {α : Type} {c : Prop} [Decidable c] {a b : α} (h : (if c then some a else none) = some b) : c ∧ a = b := by
  split at h
  · rename_i hc; exact ⟨hc, Option.some.inj h⟩
  · cases h
theorem opAdd : OpD X (binaryOp .Add) gAdd := by
  intro pins s σ' H u v uv vv Q I ru rv h
  obtain ⟨C, O, σ, ρ, x, y, z, ek, F, vx, vy, ez, q⟩ := h
  cases x <;> cases y <;> try (simp [gAdd] at ez; done)
  · cases ez
    exact op_add pins s σ' H u v uv vv Q I ru rv ⟨_, _, vw_int vx, vw_int vy, q _ H O F .refl or_int⟩
  · obtain ⟨hl, e⟩ := some_if ez
    cases e
    exact op_add_str pins s σ' H u v uv vv Q I ru rv ⟨_, _, vw_str vx, vw_str vy, by rw [sizeLine_eq]; exact hl, q _ H O F .refl or_str⟩
  · obtain ⟨hl, e⟩ := some_if ez
    cases e
    obtain ⟨a, xs, e1, h1, r1⟩ := vx
    obtain ⟨b, ys, e2, h2, r2⟩ := vy
    refine op_cat pins s σ' H u v uv vv Q I ru rv ⟨a, b, xs, ys, e1, e2, h1, h2, by rw [sizeLine_eq, ← r1.len, ← r2.len]; exact hl, fun p hp => q _ _ O (F.laid hp) (Fw.laid hp) (OpR.new F hp (by rw [ek]; exact r1.append r2))⟩
  · obtain ⟨hl, e⟩ := some_if ez
    cases e
    obtain ⟨a, xs, e1, h1, r1⟩ := vw_tup vx
    obtain ⟨b, ys, e2, h2, r2⟩ := vw_tup vy
    have hr := r1.append r2
    refine op_catA pins s σ' H u v uv vv Q I ru rv ⟨a, b, xs, ys, e1, e2, h1, h2, by rw [sizeLine_eq, ← r1.len, ← r2.len]; exact hl, fun hx => ?_, fun hx hy => ?_, fun hx hy p hp => ?_⟩
    · refine q _ H O F .refl (or_tup (by rw [ek]; exact h2) (by rw [ek]; rw [hx] at hr; exact hr))
    · refine q _ H O F .refl (or_tup (by rw [ek]; exact h1) (by rw [ek]; rw [hy, List.append_nil] at hr; exact hr))
    · exact q _ _ O (F.laid hp) (Fw.laid hp) (or_tup (.inl (.inl upd_same)) (by rw [ek]; exact hr.keep (fun b u e _ => updK hp b u e) F.mu fun _ h => h))
theorem opSub : OpD X (binaryOp .Sub) gSub := by
  intro pins s σ' H u v uv vv Q I ru rv h
  obtain ⟨C, O, σ, ρ, x, y, z, ek, F, vx, vy, ez, q⟩ := h
  cases x <;> cases y <;> try (simp [gSub] at ez; done)
  cases ez
  exact op_sub pins s σ' H u v uv vv Q I ru rv ⟨_, _, vw_int vx, vw_int vy, q _ H O F .refl or_int⟩
theorem opMul : OpD X (binaryOp .Mult) gMul := by
  intro pins s σ' H u v uv vv Q I ru rv h
  obtain ⟨C, O, σ, ρ, x, y, z, ek, F, vx, vy, ez, q⟩ := h
  cases x <;> cases y <;> try (simp [gMul] at ez; done)
  · obtain ⟨hl, e⟩ := some_if ez
    cases e
    exact op_mulW pins s σ' H u v uv vv Q I ru rv ⟨_, _, vw_int vx, vw_int vy, hl, q _ H O F .refl or_int⟩
  · obtain ⟨hl, e⟩ := some_if ez
    cases e
    obtain ⟨a, xs, e1, h1, r1⟩ := vx
    refine op_rep pins s σ' H u v uv vv Q I ru rv ⟨a, _, xs, e1, vw_int vy, h1, hl.1, hl.2.1, by rw [sizeLine_eq, ← r1.len]; exact hl.2.2, fun p hp => q _ _ O (F.laid hp) (Fw.laid hp) (OpR.new F hp ?_)⟩
    rw [ek]
    rename_i k
    generalize k.toNat = n
    induction n with
    | zero => exact .nil
    | succ n ih =>
      rw [List.replicate_succ, List.flatten_cons, List.replicate_succ, List.flatten_cons]
      exact r1.append ih
theorem opMod : OpD X (binaryOp .Mod) gMod := by
  intro pins s σ' H u v uv vv Q I ru rv h
  obtain ⟨C, O, σ, ρ, x, y, z, ek, F, vx, vy, ez, q⟩ := h
  cases x <;> cases y <;> try (simp [gMod] at ez; done)
  obtain ⟨hl, e⟩ := some_if ez
  cases e
  exact op_mod pins s σ' H u v uv vv Q I ru rv ⟨_, _, vw_int vx, vw_int vy, hl, q _ H O F .refl or_int⟩
theorem opDiv : OpD X (binaryOp .FloorDiv) gDiv := by
  intro pins s σ' H u v uv vv Q I ru rv h
  obtain ⟨C, O, σ, ρ, x, y, z, ek, F, vx, vy, ez, q⟩ := h
  cases x <;> cases y <;> try (simp [gDiv] at ez; done)
  obtain ⟨hl, e⟩ := some_if ez
  cases e
  exact op_fdivW pins s σ' H u v uv vv Q I ru rv ⟨_, _, vw_int vx, vw_int vy, hl, q _ H O F .refl or_int⟩
theorem opPow : OpD X (binaryOp .Pow) gPow := by
  intro pins s σ' H u v uv vv Q I ru rv h
  obtain ⟨C, O, σ, ρ, x, y, z, ek, F, vx, vy, ez, q⟩ := h
  cases x <;> cases y <;> try (simp [gPow] at ez; done)
  rename_i i j
  obtain ⟨hl, e⟩ := some_if ez
  cases e
  cases vw_int vx
  cases vw_int vy
  obtain ⟨t, rfl⟩ := ru
  obtain ⟨t', rfl⟩ := rv
  refine pow_int hl.1 ?_ ⟨.int (i ^ j.toNat), H, I.tok _, ⟨_, rfl⟩, q _ H O F .refl or_int⟩
  have b : ((Builtin.Int.intBits i : Nat) : Int) ≤ ((i.natAbs.log2 + 1 : Nat) : Int) := by
    unfold Builtin.Int.intBits
    split <;> omega
  exact Int.le_trans (Int.mul_le_mul_of_nonneg_right b hl.1) (by have := hl.2; omega)
def gNeg : D → Option D
  | .int i => some (.int (-i))
  | _ => none
end
/-! one operand -/
def fUn (g : D → Option D) (f : FE) : FE := fun ρ => (f ρ).bind fun p => (der p.2 p.1).bind fun x => (g x).bind fun z => some (.d z, p.2)
section
variable {X : Cx} {K : PySem.W.Frag} {a e b : Expr} {f fa fb : FE} {pos : Pos}
theorem tUn1 {g : D → Option D} {σ : L2.St} {H : Hp} {Q : VK} (h : tF K (fUn g f) σ H Q) : tF K f σ H fun u H1 => ∃ C O ρ x z, C.K = K ∧ FR C O σ ρ H1 ∧ Vw K H1 O x u ∧ g x = some z ∧ ∀ w, Rep K H1 O z w → Q w H1 := by
  obtain ⟨C, O, ρ, o, ρ', ek, F, e, q⟩ := h
  unfold fUn at e
  cases ea : f ρ with
  | none => rw [ea] at e; cases e
  | some p =>
    obtain ⟨o1, ρ1⟩ := p
    rw [ea, Option.bind_some] at e
    cases ex : der ρ1 o1 with
    | none => simp [ex] at e
    | some x =>
      simp only [ex, Option.bind_some] at e
      cases ez : g x with
      | none => simp [ez] at e
      | some z =>
        simp only [ez, Option.bind_some] at e
        cases e
        exact ⟨C, O, ρ, o1, _, ek, F, ea, fun u H1 O1 F1 w1 r1 => ⟨C, O1, _, x, z, ek, F1, by rw [← ek]; exact r1.w.vw F1 ex, ez, fun w hw => q w H1 O1 F1 w1 (by show Rep C.K _ _ _ _; rw [ek]; exact hw)⟩⟩
theorem d_neg (ha : PE X a (tF X.K f)) : PE X (.UnaryOp .USub a pos) (tF X.K (fUn gNeg f)) := (pe_un un_neg ha).imp fun σ H Q h => by
  obtain ⟨C, O, ρ, o, ρ', ek, F, e, q⟩ := tUn1 h
  refine ⟨C, O, ρ, o, ρ', ek, F, e, fun u H1 O1 F1 w1 r1 => ?_⟩
  obtain ⟨C2, O2, ρ2, x, z, ek2, F2, vx, ez, q2⟩ := q u H1 O1 F1 w1 r1
  cases x <;> try (simp [gNeg] at ez; done)
  cases ez
  exact ⟨_, vw_int vx, q2 _ (mk_int (K := X.K) (H := H1) (O := O2))⟩

/-! ### comparisons -/
mutual
def toPy : D → PyData
  | .non => .none
  | .bl b => .bool b
  | .int i => .int i
  | .str x => .str x
  | .lst ds => .list (toPys ds)
  | .tup ds => .tuple (toPys ds)
  | .frl ds => .list (toPys ds)
  | .dct _ _ => .dict []
  | .op _ => .dict []
  | .odd _ => .dict []
def toPys : List D → List PyData
  | [] => []
  | d :: ds => toPy d :: toPys ds
end
mutual
theorem Rep.dp {H : Hp} {O : AP} : ∀ {d : D} {v : V}, Rep K H O d v → (toPy d).canLay0 = true → Dp K H v (toPy d)
  | .non, v, h, _ => by rw [rp_non h, toPy]; exact .non
  | .bl b, v, h, _ => by rw [rp_bl h, toPy]; exact .bl b
  | .int b, v, h, _ => by rw [rp_int h, toPy]; exact .int b
  | .str b, v, h, _ => by rw [rp_str h, toPy]; exact .str b
  | .op b, v, h, c => by rw [toPy] at c; exact absurd c (by decide)
  | .odd b, v, h, c => by rw [toPy] at c; exact absurd c (by decide)
  | .dct _ _, v, h, c => by rw [toPy] at c; exact absurd c (by decide)
  | .lst ds, v, h, c => by
    rw [Rep] at h
    obtain ⟨a, xs, rfl, ha, _, r⟩ := h
    rw [toPy] at c ⊢
    exact .lst (.inl (.inl ha)) (Reps.dp r (by simpa [PyData.canLay0] using c))
  | .frl ds, v, h, c => by
    rw [Rep] at h
    obtain ⟨a, xs, rfl, ha, r⟩ := h
    rw [toPy] at c ⊢
    exact .lst ha.sq (Reps.dp r (by simpa [PyData.canLay0] using c))
  | .tup ds, v, h, c => by
    rw [Rep] at h
    obtain ⟨a, xs, rfl, ha, r⟩ := h
    rw [toPy] at c ⊢
    exact .tup ha (Reps.dp r (by simpa [PyData.canLay0] using c))
theorem Reps.dp {H : Hp} {O : AP} : ∀ {ds : List D} {vs : List V}, Reps K H O ds vs → PyData.canLayAll0 (toPys ds) = true → DpAll K H vs (toPys ds)
  | [], vs, h, _ => by rw [Reps] at h; rw [h, toPys]; exact .nil
  | d :: ds, vs, h, c => by
    rw [Reps] at h
    obtain ⟨v, r, rfl, h1, h2⟩ := h
    rw [toPys] at c ⊢
    simp only [PyData.canLayAll0, Bool.and_eq_true] at c
    exact .cons (Rep.dp h1 c.1) (Reps.dp h2 c.2)
end
theorem Vw.dp {H : Hp} {O : AP} {d : D} {v : V} (h : Vw K H O d v) (c : (toPy d).canLay0 = true) : Dp K H v (toPy d) := by
  cases d with
  | lst ds =>
    obtain ⟨a, xs, rfl, ha, r⟩ := h
    rw [toPy] at c ⊢
    exact .lst (.inl (.inl ha)) (Reps.dp r (by simpa [PyData.canLay0] using c))
  | _ => exact Rep.dp (O := O) h c
def okP (d : D) : Bool := SeqAt.shaped (toPy d)
def eqP (x y : D) : Bool := PyData.eqv (toPy x) (toPy y)
def gEq (neg : Bool) : D → D → Option Opd
  | .int i, .int j => some (.d (.bl (decide (i = j) != neg)))
  | .str i, .str j => some (.d (.bl (decide (i = j) != neg)))
  | .bl i, .bl j => some (.d (.bl (decide (i = j) != neg)))
  | .lst xs, .lst [] => some (.d (.bl (xs.isEmpty != neg)))
  | x, y => if okP x = true ∧ okP y = true then some (.d (.bl (eqP x y != neg))) else none
theorem eqD_gen (hu : X.A.units + 64 < cLine) {pins : List (Addr × Obj)} {s : Shared} {σ' σ : L2.St} {ρ : Ev} {C : Fc} {H : Hp} {O : AP} {u v : V} {uv vv : Value} {Q : VK} {x y : D} {z : Opd} (I : Inv X pins σ' H s) (ru : RelV u uv) (rv : RelV v vv) (ek : C.K = X.K) (F : FR C O σ ρ H)
    (vx : Vw X.K H O x u) (vy : Vw X.K H O y v) (ez : (if okP x = true ∧ okP y = true then some (Opd.d (.bl (eqP x y != false))) else none) = some z)
    (q : ∀ w H' O', FR C O' σ ρ H' → Fw O σ ρ H O' ρ H' → OpR C O' σ ρ H' w z → Q w H') : wpAny (model X.prog X.w) X.A (compareOp .Eq uv vv) (EP X pins σ' Q) X.xe s := by
  obtain ⟨hl, e⟩ := some_if ez
  cases e
  exact op_eqD hu pins s σ' H u v uv vv Q I ru rv ⟨toPy x, toPy y, vx.dp (SeqAt.canLay_of_shaped hl.1), vy.dp (SeqAt.canLay_of_shaped hl.2), hl.1, hl.2, q _ H O F .refl (by show Rep _ _ _ _ _; rw [Rep]; unfold eqP; cases PyData.eqv (toPy x) (toPy y) <;> rfl)⟩
theorem neD_gen (hu : X.A.units + 64 < cLine) {pins : List (Addr × Obj)} {s : Shared} {σ' σ : L2.St} {ρ : Ev} {C : Fc} {H : Hp} {O : AP} {u v : V} {uv vv : Value} {Q : VK} {x y : D} {z : Opd} (I : Inv X pins σ' H s) (ru : RelV u uv) (rv : RelV v vv) (ek : C.K = X.K) (F : FR C O σ ρ H)
    (vx : Vw X.K H O x u) (vy : Vw X.K H O y v) (ez : (if okP x = true ∧ okP y = true then some (Opd.d (.bl (eqP x y != true))) else none) = some z)
    (q : ∀ w H' O', FR C O' σ ρ H' → Fw O σ ρ H O' ρ H' → OpR C O' σ ρ H' w z → Q w H') : wpAny (model X.prog X.w) X.A (compareOp .NotEq uv vv) (EP X pins σ' Q) X.xe s := by
  obtain ⟨hl, e⟩ := some_if ez
  cases e
  exact op_neD hu pins s σ' H u v uv vv Q I ru rv ⟨toPy x, toPy y, vx.dp (SeqAt.canLay_of_shaped hl.1), vy.dp (SeqAt.canLay_of_shaped hl.2), hl.1, hl.2, q _ H O F .refl (by show Rep _ _ _ _ _; rw [Rep]; unfold eqP; cases PyData.eqv (toPy x) (toPy y) <;> rfl)⟩
/-- a list beside the empty one, whatever its items -/
theorem emp_lists {pins : List (Addr × Obj)} {s : Shared} {σ' : L2.St} {H : Hp} {O : AP} {u v : V} {uv vv : Value} {xs : List D} (I : Inv X pins σ' H s) (ru : RelV u uv) (rv : RelV v vv) (vx : Vw X.K H O (.lst xs) u) (vy : Vw X.K H O (.lst []) v) (h0 : xs ≠ []) :
    ∃ (l b : Addr) (its its2 : Array Value), uv = .ref l ∧ vv = .ref b ∧ s.heap.IsList l its ∧ s.heap.IsList b its2 ∧ (its.size != its2.size) = true := by
  obtain ⟨a, ys, rfl, ha, r⟩ := vx
  obtain ⟨b, zs, rfl, hb, r2⟩ := vy
  obtain ⟨its, r3, p1, _⟩ := I.list (a := a) (.inl (.inl ha))
  obtain ⟨its2, r4, p2, _⟩ := I.list (a := b) (.inl (.inl hb))
  have l1 := r.len
  have l2 := r2.len
  have l3 := r3.length
  have l4 := r4.length
  refine ⟨a, b, its.toArray, its2.toArray, ru, rv, p1.isList, p2.isList, ?_⟩
  have : xs.length ≠ 0 := fun z => h0 (List.length_eq_zero_iff.mp z)
  have l5 : ([] : List D).length = 0 := rfl
  simp only [List.size_toArray, bne_iff_ne, ne_eq]
  omega
theorem opEq (hu : X.A.units + 64 < cLine) : OpD X (compareOp .Eq) (gEq false) := by
  intro pins s σ' H u v uv vv Q I ru rv h
  obtain ⟨C, O, σ, ρ, x, y, z, ek, F, vx, vy, ez, q⟩ := h
  unfold gEq at ez
  split at ez
  · cases vw_int vx; cases vw_int vy; cases ez
    refine op_eq pins s σ' H _ _ uv vv Q I ru rv ⟨rfl, q _ H O F .refl ?_⟩
    show Rep _ _ _ _ _
    rw [Rep, Bool.bne_false]; congr 1; simp
  · cases vw_str vx; cases vw_str vy; cases ez
    refine op_eq pins s σ' H _ _ uv vv Q I ru rv ⟨rfl, q _ H O F .refl ?_⟩
    show Rep _ _ _ _ _
    rw [Rep, Bool.bne_false]; congr 1; simp
  · cases vw_bl vx; cases vw_bl vy; cases ez
    refine op_eq pins s σ' H _ _ uv vv Q I ru rv ⟨rfl, q _ H O F .refl ?_⟩
    show Rep _ _ _ _ _
    rw [Rep, Bool.bne_false]; congr 1; simp
  · rename_i xs
    by_cases h0 : xs = []
    · subst h0
      exact eqD_gen hu I ru rv ek F vx vy (by rw [← ez]; rfl) q
    · cases ez
      obtain ⟨l, b, its, its2, rfl, rfl, h1, h2, h3⟩ := emp_lists I ru rv vx vy h0
      refine SeqAt.eq_list_lengthsAt h1 h2 h3 (by omega) ⟨.bl false, H, I, rfl, q _ H O F .refl ?_⟩
      show Rep _ _ _ _ _
      rw [Rep]
      cases xs with
      | nil => exact absurd rfl h0
      | cons x r => rfl
  · exact eqD_gen hu I ru rv ek F vx vy ez q
theorem opNe (hu : X.A.units + 64 < cLine) : OpD X (compareOp .NotEq) (gEq true) := by
  intro pins s σ' H u v uv vv Q I ru rv h
  obtain ⟨C, O, σ, ρ, x, y, z, ek, F, vx, vy, ez, q⟩ := h
  unfold gEq at ez
  split at ez
  · cases vw_int vx; cases vw_int vy; cases ez
    refine op_ne pins s σ' H _ _ uv vv Q I ru rv ⟨rfl, q _ H O F .refl ?_⟩
    show Rep _ _ _ _ _
    rw [Rep, Bool.bne_true]; congr 2; simp
  · cases vw_str vx; cases vw_str vy; cases ez
    refine op_ne pins s σ' H _ _ uv vv Q I ru rv ⟨rfl, q _ H O F .refl ?_⟩
    show Rep _ _ _ _ _
    rw [Rep, Bool.bne_true]; congr 2; simp
  · cases vw_bl vx; cases vw_bl vy; cases ez
    refine op_ne pins s σ' H _ _ uv vv Q I ru rv ⟨rfl, q _ H O F .refl ?_⟩
    show Rep _ _ _ _ _
    rw [Rep, Bool.bne_true]; congr 2; simp
  · rename_i xs
    by_cases h0 : xs = []
    · subst h0
      exact neD_gen hu I ru rv ek F vx vy (by rw [← ez]; rfl) q
    · cases ez
      obtain ⟨l, b, its, its2, rfl, rfl, h1, h2, h3⟩ := emp_lists I ru rv vx vy h0
      refine SeqAt.RcNeAt.lists_lengths h1 h2 h3 (by omega) X.prog X.w _ _ ⟨.bl true, H, I, rfl, q _ H O F .refl ?_⟩
      show Rep _ _ _ _ _
      rw [Rep]
      cases xs with
      | nil => exact absurd rfl h0
      | cons x r => rfl
  · exact neD_gen hu I ru rv ek F vx vy ez q
def gCmp (p : Int → Int → Bool) : D → D → Option Opd
  | .int i, .int j => some (.d (.bl (p i j)))
  | _, _ => none
theorem opCmp {op : CmpOp} {p : Int → Int → Bool} (ho : L2.OpR X (compareOp op) (rI0 fun i j => .bl (p i j))) : OpD X (compareOp op) (gCmp p) := by
  intro pins s σ' H u v uv vv Q I ru rv h
  obtain ⟨C, O, σ, ρ, x, y, z, ek, F, vx, vy, ez, q⟩ := h
  cases x <;> cases y <;> try (simp [gCmp] at ez; done)
  cases ez
  exact ho pins s σ' H u v uv vv Q I ru rv ⟨_, _, vw_int vx, vw_int vy, q _ H O F .refl or_bl⟩
theorem opLt : OpD X (compareOp .Lt) (gCmp fun i j => decide (i < j)) := opCmp op_lt
theorem opLe : OpD X (compareOp .LtE) (gCmp fun i j => decide (i ≤ j)) := opCmp op_le
theorem opGt : OpD X (compareOp .Gt) (gCmp fun i j => decide (j < i)) := opCmp op_gt
theorem opGe : OpD X (compareOp .GtE) (gCmp fun i j => decide (j ≤ i)) := opCmp op_ge
def isNon : D → Bool
  | .non => true
  | _ => false
def noOp : D → Bool
  | .op _ => false
  | _ => true
def gIs (neg : Bool) : D → D → Option Opd
  | x, .non => if noOp x = true then some (.d (.bl (isNon x != neg))) else none
  | _, _ => none
theorem isNon_ok {H : Hp} {O : AP} {x : D} {u : V} (h : Vw K H O x u) (n : noOp x = true) : decide (u = .non) = isNon x := by
  cases x with
  | non => cases vw_non h; rfl
  | bl b => cases vw_bl h; rfl
  | int b => cases vw_int h; rfl
  | str b => cases vw_str h; rfl
  | lst b => obtain ⟨a, xs, rfl, _⟩ := h; rfl
  | tup b => obtain ⟨a, xs, rfl, _⟩ := vw_tup h; rfl
  | frl b => obtain ⟨a, xs, rfl, _⟩ := vw_frl h; rfl
  | dct ks b =>
    have h : Rep _ _ _ (.dct ks b) u := h
    rw [Rep] at h
    obtain ⟨a, kvs, rfl, _⟩ := h; rfl
  | op b => cases n
  | odd b =>
    have h : Rep K H O (.odd b) u := h
    rw [Rep] at h
    obtain ⟨a, rfl, _⟩ := h; rfl
theorem opIs : OpD X (compareOp .Is) (gIs false) := by
  intro pins s σ' H u v uv vv Q I ru rv h
  obtain ⟨C, O, σ, ρ, x, y, z, ek, F, vx, vy, ez, q⟩ := h
  cases y <;> try (simp [gIs] at ez; done)
  obtain ⟨hl, e⟩ := some_if ez
  cases e
  refine op_isN pins s σ' H u v uv vv Q I ru rv ⟨vw_non vy, q _ H O F .refl ?_⟩
  rw [isNon_ok vx hl, Bool.bne_false]; exact or_bl
theorem opIsNot : OpD X (compareOp .IsNot) (gIs true) := by
  intro pins s σ' H u v uv vv Q I ru rv h
  obtain ⟨C, O, σ, ρ, x, y, z, ek, F, vx, vy, ez, q⟩ := h
  cases y <;> try (simp [gIs] at ez; done)
  obtain ⟨hl, e⟩ := some_if ez
  cases e
  refine op_notN pins s σ' H u v uv vv Q I ru rv ⟨vw_non vy, q _ H O F .refl ?_⟩
  rw [isNon_ok vx hl, Bool.bne_true]; exact or_bl
/-! in, not in: flat items -/
def flatD : D → Bool
  | .non => true
  | .bl _ => true
  | .int _ => true
  | .str _ => true
  | _ => false
def toV : D → V
  | .non => .non
  | .bl b => .bl b
  | .int b => .int b
  | .str b => .str b
  | .op v => v
  | _ => .non
theorem flat_v {H : Hp} {O : AP} {x : D} {u : V} (h : Rep K H O x u) (f : flatD x = true) : u = toV x ∧ flatV u = true := by
  cases x with
  | non => cases rp_non h; exact ⟨rfl, rfl⟩
  | bl b => cases rp_bl h; exact ⟨rfl, rfl⟩
  | int b => cases rp_int h; exact ⟨rfl, rfl⟩
  | str b => cases rp_str h; exact ⟨rfl, rfl⟩
  | _ => cases f
theorem flat_vs {H : Hp} {O : AP} : ∀ {ds : List D} {us : List V}, Reps K H O ds us → ds.all flatD = true → us = ds.map toV ∧ us.all flatV = true
  | [], us, h, _ => by rw [Reps] at h; subst h; exact ⟨rfl, rfl⟩
  | d :: ds, us, h, f => by
    rw [Reps] at h
    obtain ⟨v, r, rfl, h1, h2⟩ := h
    rw [List.all_cons, Bool.and_eq_true] at f
    obtain ⟨e1, e2⟩ := flat_v h1 f.1
    obtain ⟨e3, e4⟩ := flat_vs h2 f.2
    exact ⟨by rw [List.map_cons, e1, e3], by rw [List.all_cons, e2, e4]; rfl⟩
def eqF (y x : D) : Bool := eqV (toV y) (toV x)
def gIn (neg : Bool) : D → D → Option Opd := fun x y => (items y).bind fun ds => if flatD x = true ∧ ds.all flatD = true then some (.d (.bl ((ds.any fun y => eqF y x) != neg))) else none
theorem opIn' {neg : Bool} {op : CmpOp} (ho : L2.OpR X (compareOp op) (rIn X.K neg)) : OpD X (compareOp op) (gIn neg) := by
  intro pins s σ' H u v uv vv Q I ru rv h
  obtain ⟨C, O, σ, ρ, x, y, z, ek, F, vx, vy, ez, q⟩ := h
  unfold gIn at ez
  cases ei : items y with
  | none => rw [ei] at ez; cases ez
  | some ds =>
    rw [ei, Option.bind_some] at ez
    obtain ⟨hl, e⟩ := some_if ez
    cases e
    obtain ⟨a, xs, e1, h1, r1⟩ := vw_items vy ei
    obtain ⟨e3, e4⟩ := flat_vs r1 hl.2
    obtain ⟨e5, e6⟩ := flat_v (O := O) (by cases x <;> first | exact vx | exact absurd hl.1 (by simp [flatD])) hl.1
    refine ho pins s σ' H u v uv vv Q I ru rv ⟨a, xs, e1, h1, e6, e4, q _ H O F .refl ?_⟩
    show Rep _ _ _ _ _
    have en : inV u xs = ds.any fun y => eqF y x := by
      rw [e5, e3]
      unfold inV eqF
      rw [List.any_map]; rfl
    rw [Rep, en]
    cases neg
    · rw [Bool.bne_false]; rfl
    · rw [Bool.bne_true]; rfl
theorem opIn : OpD X (compareOp .In) (gIn false) := opIn' op_in_seq
theorem opNotIn : OpD X (compareOp .NotIn) (gIn true) := opIn' op_notIn_seq

/-! ### items, slices -/
def gIx : D → D → Option Opd
  | .str z, .int i => if z.length ≤ 16777216 then (atI z.cps.toList i).bind fun c => some (.d (.str ⟨#[c]⟩)) else none
  | x, .int i => (items x).bind fun ds => (atI ds i).bind fun d => some (.d d)
  | _, _ => none
theorem atI_rep {H : Hp} {O : AP} {ds : List D} {xs : List V} {i : Int} {d : D} (r : Reps K H O ds xs) (h : atI ds i = some d) : ∃ v, atI xs i = some v ∧ Rep K H O d v := by
  unfold atI at h ⊢
  rw [← r.len]
  cases e : ixN ds.length i with
  | none => rw [e] at h; cases h
  | some j =>
    rw [e, Option.bind_some] at h
    exact r.get h
theorem ixD : IxR X (rD X.K gIx) := by
  intro value slice pins s σ' H u v uv vv Q I ru rv h hsub
  obtain ⟨C, O, σ, ρ, x, y, z, ek, F, vx, vy, ez, q⟩ := h
  unfold gIx at ez
  split at ez
  · cases vw_str vx; cases vw_int vy
    rename_i z0 i
    split at ez
    · rename_i hl
      cases ec : atI z0.cps.toList i with
      | none => rw [ec] at ez; cases ez
      | some c =>
        rw [ec, Option.bind_some] at ez
        cases ez
        exact ix_str value slice pins s σ' H _ _ uv vv Q I ru rv ⟨z0, i, c, rfl, rfl, by rw [sizeLine_eq]; exact hl, ec, q _ H O F .refl or_str⟩ hsub
    · cases ez
  · rename_i i _
    cases vw_int vy
    cases ei : items x with
    | none => rw [ei] at ez; cases ez
    | some ds =>
      rw [ei, Option.bind_some] at ez
      cases ec : atI ds i with
      | none => rw [ec] at ez; cases ez
      | some d =>
        rw [ec, Option.bind_some] at ez
        cases ez
        obtain ⟨a, xs, e1, h1, r1⟩ := vw_items vx ei
        obtain ⟨w, hw, rw'⟩ := atI_rep r1 ec
        subst e1
        rcases h1 with h1 | h1
        · exact ix_list value slice pins s σ' H _ _ uv vv Q I ru rv ⟨a, xs, i, w, rfl, rfl, h1, hw, q _ H O F .refl (by show Rep C.K _ _ _ _; rw [ek]; exact rw')⟩ hsub
        · exact ix_tup value slice pins s σ' H _ _ uv vv Q I ru rv ⟨a, xs, i, w, rfl, rfl, h1, hw, q _ H O F .refl (by show Rep C.K _ _ _ _; rw [ek]; exact rw')⟩ hsub
  · cases ez
def cutD (xs : List D) (lo hi : Option Int) : List D := (xs.drop (HT.sIx xs.length 0 lo)).take (HT.sIx xs.length xs.length hi - HT.sIx xs.length 0 lo)
/-- a part of a slice: none, or an int -/
abbrev FP := Ev → Option (Option Int × Ev)
def tP (K : PySem.W.Frag) (f : FP) : TO := fun σ H Q => ∃ C O ρ i ρ', C.K = K ∧ FR C O σ ρ H ∧ f ρ = some (i, ρ') ∧ ∀ H' O', FR C O' σ ρ' H' → Fw O σ ρ H O' ρ' H' → Q i H'
def pNo : FP := fun ρ => some (none, ρ)
def asI : Opd × Ev → Option (Option Int × Ev)
  | (.d (.int i), ρ) => some (some i, ρ)
  | _ => none
def pInt (f : FE) : FP := fun ρ => (f ρ).bind asI
theorem PO.imp {X : Cx} {e : Option Expr} {t t' : TO} (h : PO X e t) (i : ∀ σ H Q, t' σ H Q → t σ H Q) : PO X e t' := ⟨fun pins s σ H Q I q => h.run pins s σ H Q I (i σ H Q q)⟩
theorem p_no : PO X none (tP X.K pNo) := PO.imp po_none fun σ H Q h => by
  obtain ⟨C, O, ρ, i, ρ', ek, F, e, q⟩ := h
  cases e
  exact q H O F .refl
theorem p_int (h : PE X e (tF X.K f)) : PO X (some e) (tP X.K (pInt f)) := PO.imp (po_some h) fun σ H Q h => by
  obtain ⟨C, O, ρ, i, ρ', ek, F, e, q⟩ := h
  unfold pInt at e
  cases ea : f ρ with
  | none => rw [ea] at e; cases e
  | some p =>
    rw [ea, Option.bind_some] at e
    unfold asI at e
    split at e
    · rename_i j ρ2
      cases e
      exact ⟨C, O, ρ, _, _, ek, F, ea, fun v H1 O1 F1 w r => ⟨j, rp_int (K := C.K) (H := H1) (O := O1) r, q H1 O1 F1 w⟩⟩
    · cases e
def gSl (x : D) (lo hi : Option Int) : Option Opd := match x with
  | .tup ds => some (.d (.tup (cutD ds lo hi)))
  | .lst ds => some (.nw (cutD ds lo hi))
  | .frl ds => some (.nw (cutD ds lo hi))
  | _ => none
def fSl (f : FE) (fl fh : FP) : FE := fun ρ => (f ρ).bind fun p => (fl p.2).bind fun l => (fh l.2).bind fun h => (der h.2 p.1).bind fun x => (gSl x l.1 h.1).bind fun z => some (z, h.2)
def rSD (K : PySem.W.Frag) : V → Option Int → Option Int → Hp → VK → Prop := fun u lo hi H Q => ∃ C O σ ρ x z, C.K = K ∧ FR C O σ ρ H ∧ Vw K H O x u ∧ gSl x lo hi = some z ∧ ∀ w H' O', FR C O' σ ρ H' → Fw O σ ρ H O' ρ H' → OpR C O' σ ρ H' w z → Q w H'
theorem cut_rep {H : Hp} {O : AP} {ds : List D} {xs : List V} {lo hi : Option Int} (r : Reps K H O ds xs) : Reps K H O (cutD ds lo hi) (cutV xs lo hi) := by
  unfold cutD cutV
  rw [← r.len]
  exact (r.drop _).take _
theorem slD' : L2.SlR X (rSD X.K) := by
  intro pins s σ' H x v vl vu lo hi sl Q I rx hs pl pu h
  obtain ⟨C, O, σ, ρ, d, z, ek, F, vx, ez, q⟩ := h
  cases d <;> try (simp [gSl] at ez; done)
  · cases ez
    obtain ⟨a, xs, e1, h1, r1⟩ := vx
    exact sl_list pins s σ' H x v vl vu lo hi sl Q I rx hs pl pu ⟨a, xs, e1, .inl (.inl h1), fun p hp => q _ _ O (F.laid hp) (Fw.laid hp) (OpR.new F hp (by rw [ek]; exact cut_rep r1))⟩
  · cases ez
    obtain ⟨a, xs, e1, h1, r1⟩ := vw_tup vx
    refine sl_tupA pins s σ' H x v vl vu lo hi sl Q I rx hs pl pu ⟨a, xs, e1, h1, fun hw => ?_, fun hw p hp => ?_⟩
    · refine q _ H O F .refl (or_tup (by rw [ek]; exact h1) ?_)
      rw [ek]
      have z := cut_rep (lo := lo) (hi := hi) r1
      have e : cutV xs lo hi = xs := by unfold cutV; rw [hw.1, hw.2]; simp
      rw [e] at z; exact z
    · exact q _ _ O (F.laid hp) (Fw.laid hp) (or_tup (.inl (.inl upd_same)) (by rw [ek]; exact (cut_rep r1).keep (fun b u e _ => updK hp b u e) F.mu fun _ h => h))
  · cases ez
    obtain ⟨a, xs, e1, h1, r1⟩ := vw_frl vx
    exact sl_list pins s σ' H x v vl vu lo hi sl Q I rx hs pl pu ⟨a, xs, e1, h1.sq, fun p hp => q _ _ O (F.laid hp) (Fw.laid hp) (OpR.new F hp (by rw [ek]; exact cut_rep r1))⟩
theorem d_sl {lo hi : Option Expr} {p2 : Pos} {fl fh : FP} (he : PE X e (tF X.K f)) (hl : PO X lo (tP X.K fl)) (hh : PO X hi (tP X.K fh)) : PE X (.Subscript e (.Slice lo hi none p2) pos) (tF X.K (fSl f fl fh)) :=
  (pe_slice slD' he hl hh).imp fun σ H Q h => by
    obtain ⟨C, O, ρ, o, ρ', ek, F, e, q⟩ := h
    unfold fSl at e
    cases ea : f ρ with
    | none => rw [ea] at e; cases e
    | some p =>
      obtain ⟨o1, ρ1⟩ := p
      rw [ea, Option.bind_some] at e
      cases eb : fl ρ1 with
      | none => simp [eb] at e
      | some p2 =>
        obtain ⟨l, ρ2⟩ := p2
        simp only [eb, Option.bind_some] at e
        cases ec : fh ρ2 with
        | none => simp [ec] at e
        | some p3 =>
          obtain ⟨h, ρ3⟩ := p3
          simp only [ec, Option.bind_some] at e
          cases ex : der ρ3 o1 with
          | none => simp [ex] at e
          | some x =>
            simp only [ex, Option.bind_some] at e
            cases ez : gSl x l h with
            | none => simp [ez] at e
            | some z =>
              simp only [ez, Option.bind_some] at e
              cases e
              refine ⟨C, O, ρ, o1, ρ1, ek, F, ea, fun u H1 O1 F1 w1 r1 => ?_⟩
              refine ⟨C, O1, ρ1, l, ρ2, ek, F1, eb, fun H2 O2 F2 w2 => ?_⟩
              refine ⟨C, O2, ρ2, h, _, ek, F2, ec, fun H3 O3 F3 w3 => ?_⟩
              exact ⟨C, O3, σ, _, x, _, ek, F3, by rw [← ek]; exact ((r1.w.fw F1 w2).fw F2 w3).vw F3 ex, ez, fun w H4 O4 F4 w4 r4 => q w H4 O4 F4 (((w1.trans w2).trans w3).trans w4) r4⟩
end
end Dv

set_option Elab.async false
set_option linter.all false
set_option maxRecDepth 100000
set_option maxHeartbeats 2000000
/-! calls of own defs, and a def by its body -/
namespace Dv
open PySem PySem.Spec PyProof.Rows L2

/-- what a def hands back: a value, or a new list -/
inductive Rt where
  | d (x : D) | nw (ds : List D)
def RtR (K : PySem.W.Frag) (O : AP) (H H' : Hp) (v : V) : Rt → Prop
  | .d x => Rep K H' O x v
  | .nw ds => ∃ a xs, v = .ref a ∧ H a = none ∧ H' a = some (.lst xs) ∧ Reps K H' (fun b => b = a ∨ O b) ds xs
def Rt.o : Rt → Opd
  | .d x => .d x
  | .nw ds => .nw ds
/-- a def without changes -/
abbrev F0 := List D → Option Rt
/-- a def that changes the list that it is handed first -/
abbrev F1 := List D → Option (Rt × List D)
def spF0 (K : PySem.W.Frag) (n : Nat) (φ : F0) : Sp := fun vs H Q _ => vs.length = n ∧ ∃ O ds r, φ ds = some r ∧ OL O H ∧ Reps K H O ds vs ∧ ∀ v H', (∀ b o, H b = some o → H' b = some o) → RtR K O H H' v r → Q v H'
def extO (r : Rt) (v : V) (O : AP) : AP := match r with
  | .nw _ => fun b => v = .ref b ∨ O b
  | .d _ => O
def spF1 (K : PySem.W.Frag) (n : Nat) (φ : F1) : Sp := fun vs H Q _ => vs.length = n ∧ ∃ O a xs ds0 vr ds r out, vs = .ref a :: vr ∧ φ (.lst ds0 :: ds) = some (r, out) ∧ OL O H ∧ O a ∧ H a = some (.lst xs) ∧ Reps K H O ds0 xs ∧ Reps K H O ds vr ∧
  ∀ v H' ys, (∀ b o, b ≠ a → H b = some o → H' b = some o) → H' a = some (.lst ys) → RtR K O H H' v r → Reps K H' (extO r v O) out ys → Q v H'
mutual
/-- no list that may be changed -/
def noL : D → Bool
  | .lst _ => false
  | .tup ds => noLs ds
  | .frl ds => noLs ds
  | .dct _ ds => noLs ds
  | _ => true
def noLs : List D → Bool
  | [] => true
  | d :: ds => noL d && noLs ds
end
def noLr : Rt → Bool
  | .d x => noL x
  | .nw ds => noLs ds
section
variable {K : PySem.W.Frag} {H : Hp} {O O' : AP}
mutual
theorem Rep.any : ∀ {d : D} {v : V}, Rep K H O d v → noL d = true → Rep K H O' d v
  | .non, v, h, _ => by rw [Rep] at h ⊢; exact h
  | .bl b, v, h, _ => by rw [Rep] at h ⊢; exact h
  | .int b, v, h, _ => by rw [Rep] at h ⊢; exact h
  | .str b, v, h, _ => by rw [Rep] at h ⊢; exact h
  | .op b, v, h, _ => by rw [Rep] at h ⊢; exact h
  | .odd b, v, h, _ => by rw [Rep] at h ⊢; exact h
  | .lst ds, v, h, n => by rw [noL] at n; cases n
  | .frl ds, v, h, n => by
    rw [noL] at n
    rw [Rep] at h ⊢
    obtain ⟨a, xs, e, ha, r⟩ := h
    exact ⟨a, xs, e, ha, Reps.any r n⟩
  | .dct ks ds, v, h, n => by
    rw [noL] at n
    rw [Rep] at h ⊢
    obtain ⟨a, kvs, e, ha, ne, hk, r⟩ := h
    exact ⟨a, kvs, e, ha, ne, hk, Reps.any r n⟩
  | .tup ds, v, h, n => by
    rw [noL] at n
    rw [Rep] at h ⊢
    obtain ⟨a, xs, e, ha, r⟩ := h
    exact ⟨a, xs, e, ha, Reps.any r n⟩
theorem Reps.any : ∀ {ds : List D} {vs : List V}, Reps K H O ds vs → noLs ds = true → Reps K H O' ds vs
  | [], vs, h, _ => by rw [Reps] at h ⊢; exact h
  | d :: ds, vs, h, n => by
    rw [noLs, Bool.and_eq_true] at n
    rw [Reps] at h ⊢
    obtain ⟨v, r, e, h1, h2⟩ := h
    exact ⟨v, r, e, Rep.any h1 n.1, Reps.any h2 n.2⟩
end
end
def notSl : Opd → Bool
  | .sl _ => false
  | _ => true
def ders (ρ : Ev) : List Opd → Option (List D)
  | [] => some []
  | o :: os => (der ρ o).bind fun x => (ders ρ os).bind fun xs => some (x :: xs)
def fCall (φ : F0) (fa : FA) : FE := fun ρ => (fa ρ).bind fun p => (ders p.2 p.1).bind fun ds => (φ ds).bind fun r => if p.1.all notSl = true ∨ noLr r = true then some (r.o, p.2) else none
def slotOf : List Opd → Option (Nat × List Opd)
  | .sl i :: os => some (i, os)
  | _ => none
def ownD : Option Sl → Option (List D)
  | some (.own ds) => some ds
  | some (.bor ds) => some ds
  | _ => none
def putS : Option Sl → List D → Sl
  | some s, ds => s.put ds
  | none, _ => .un
def fCall1 (φ : F1) (fa : FA) : FE := fun ρ => (fa ρ).bind fun p => (slotOf p.1).bind fun q => (ownD p.2[q.1]?).bind fun ds0 => (ders p.2 q.2).bind fun ds =>
  if q.2.all notSl = true then (φ (.lst ds0 :: ds)).bind fun r => some (r.1.o, p.2.set q.1 (putS p.2[q.1]? r.2)) else none
section
variable {X : Cx} {K : PySem.W.Frag} {C : Fc} {O : AP} {σ : L2.St} {ρ : Ev} {H : Hp}
theorem ders_ok : ∀ {os : List Opd} {vs : List V} {ds : List D}, FR C O σ ρ H → OpWs C O σ H vs os → ders ρ os = some ds → os.all notSl = true → Reps C.K H O ds vs
  | [], vs, ds, F, h, e, n => by cases h; cases e; exact .nil
  | o :: os, vs, ds, F, h, e, n => by
    cases h with
    | cons h1 h2 =>
      rw [List.all_cons, Bool.and_eq_true] at n
      unfold ders at e
      cases ea : der ρ o with
      | none => rw [ea] at e; cases e
      | some x =>
        rw [ea, Option.bind_some] at e
        cases eb : ders ρ os with
        | none => simp only [eb] at e; cases e
        | some xs =>
          simp only [eb, Option.bind_some] at e
          cases e
          refine .cons ?_ (ders_ok F h2 eb n.2)
          cases o with
          | d y => cases ea; exact h1
          | nw y => cases ea; exact h1
          | sl y => exact absurd n.1 (by simp [notSl])
/-- lists of slots are lent -/
theorem ders_lent : ∀ {os : List Opd} {vs : List V} {ds : List D}, FR C O σ ρ H → OpWs C O σ H vs os → ders ρ os = some ds → Reps C.K H (fun a => O a ∧ ¬ OwnA σ ρ a) ds vs
  | [], vs, ds, F, h, e => by cases h; cases e; exact .nil
  | o :: os, vs, ds, F, h, e => by
    cases h with
    | cons h1 h2 =>
      unfold ders at e
      cases ea : der ρ o with
      | none => rw [ea] at e; cases e
      | some x =>
        rw [ea, Option.bind_some] at e
        cases eb : ders ρ os with
        | none => simp only [eb] at e; cases e
        | some xs =>
          simp only [eb, Option.bind_some] at e
          cases e
          refine .cons ?_ (ders_lent F h2 eb)
          cases o with
          | d y => cases ea; exact Rep.less (fun _ h => h.1) h1
          | nw y => cases ea; exact Rep.less (fun _ h => h.1) (show Rep C.K H O (.lst y) _ from h1)
          | sl i =>
            have h1 : σ[i]? = some (some _) := h1
            have ea : slD ρ[i]? = some x := ea
            cases q : ρ[i]? with
            | none => rw [q] at ea; cases ea
            | some s =>
              rw [q] at ea
              have z := F.slot i _ q
              cases s with
              | un => cases ea
              | own es =>
                cases ea
                obtain ⟨a, xs, e1, e2, r, _⟩ := z
                rw [h1] at e1; cases e1
                rw [Rep]
                exact ⟨a, xs, rfl, e2, fun z => z.2 ⟨i, _, q, rfl, h1⟩, r.less fun _ h => h.1⟩
              | bor es =>
                cases ea
                obtain ⟨a, xs, e1, e2, r, _⟩ := z
                rw [h1] at e1; cases e1
                rw [Rep]
                exact ⟨a, xs, rfl, e2, fun z => z.2 ⟨i, _, q, rfl, h1⟩, r.less fun _ h => h.1⟩
              | val d =>
                cases ea
                obtain ⟨u, e1, r⟩ := z
                rw [h1] at e1; cases e1
                exact r.less fun _ h => h.1
theorem OpWs.len {vs : List V} {os : List Opd} (h : OpWs C O σ H vs os) : vs.length = os.length := by
  induction h with
  | nil => rfl
  | cons _ _ ih => simp [ih]
/-- behind a call that keeps everything -/
theorem FR.ret {H' : Hp} {v : V} {r : Rt} (F : FR C O σ ρ H) (k : ∀ b o, H b = some o → H' b = some o) (h : RtR C.K O H H' v r) : FR C O σ ρ H' ∧ Fw O σ ρ H O ρ H' ∧ OpR C O σ ρ H' v r.o := by
  refine ⟨F.kept k, ⟨fun b o e _ => k b o e, fun _ h => h, fun _ h => h, fun _ h => .inl h⟩, ?_⟩
  cases r with
  | d x => exact h
  | nw ds =>
    obtain ⟨a, xs, e, h0, h1, r⟩ := h
    refine ⟨a, xs, e, h1, F.h0 h0, fun z => ?_, F.grow (N := fun b => b = a) k (fun p q => by rw [q]; exact h0) (fun p q => ⟨xs, by rw [q]; exact h1⟩), r⟩
    obtain ⟨ys, q⟩ := F.mu a z
    rw [h0] at q; cases q
theorem tCallD {φ : F0} {fa : FA} {n : Nat} {Q : VK} {E : XK} (hn : ∀ ds r, φ ds = some r → ds.length = n) (h : tF K (fCall φ fa) σ H Q) : tCall (spF0 K n φ) [] E (tAr K fa) σ H Q := by
  obtain ⟨C, O, ρ, o, ρ', ek, F, e, q⟩ := h
  unfold fCall at e
  cases ea : fa ρ with
  | none => rw [ea] at e; cases e
  | some p =>
    obtain ⟨os, ρ1⟩ := p
    rw [ea, Option.bind_some] at e
    cases eb : ders ρ1 os with
    | none => simp [eb] at e
    | some ds =>
      simp only [eb, Option.bind_some] at e
      cases er : φ ds with
      | none => simp [er] at e
      | some r =>
        simp only [er, Option.bind_some] at e
        split at e
        · rename_i hc
          cases e
          refine ⟨C, O, ρ, os, ρ', ek, F, ea, fun vs H1 O1 F1 w1 r1 => ?_⟩
          show spF0 K n φ (vs ++ []) H1 Q E
          rw [List.append_nil]
          have hlen : vs.length = n := by
            have := hn _ _ er
            have l2 := (ders_lent F1 r1 eb).len
            omega
          rcases hc with hc | hc
          · refine ⟨hlen, O1, ds, r, er, F1.mu, by rw [← ek]; exact ders_ok F1 r1 eb hc, fun v H' k hr => ?_⟩
            obtain ⟨F2, w2, o2⟩ := F1.ret k (by rw [ek]; exact hr)
            exact q v H' O1 F2 (w1.trans w2) o2
          · refine ⟨hlen, (fun a => O1 a ∧ ¬ OwnA σ ρ' a), ds, r, er, fun a h => F1.mu a h.1, by rw [← ek]; exact ders_lent F1 r1 eb, fun v H' k hr => ?_⟩
            have hr' : RtR C.K O1 H1 H' v r := by
              rw [ek]
              cases r with
              | d x => exact Rep.any hr hc
              | nw es =>
                obtain ⟨a, xs, e, h0, h1, r⟩ := hr
                exact ⟨a, xs, e, h0, h1, r.any hc⟩
            obtain ⟨F2, w2, o2⟩ := F1.ret k hr'
            exact q v H' O1 F2 (w1.trans w2) o2
        · cases e
theorem tCallD1 {φ : F1} {fa : FA} {n : Nat} {Q : VK} {E : XK} (hn : ∀ ds r, φ ds = some r → ds.length = n) (h : tF K (fCall1 φ fa) σ H Q) : tCall (spF1 K n φ) [] E (tAr K fa) σ H Q := by
  obtain ⟨C, O, ρ, o, ρ', ek, F, e, q⟩ := h
  unfold fCall1 at e
  cases ea : fa ρ with
  | none => rw [ea] at e; cases e
  | some p =>
    obtain ⟨os, ρ1⟩ := p
    rw [ea, Option.bind_some] at e
    cases es : slotOf os with
    | none => simp [es] at e
    | some sp =>
      obtain ⟨i, os'⟩ := sp
      have eos : os = .sl i :: os' := by
        unfold slotOf at es
        split at es
        · cases es; rfl
        · cases es
      subst eos
      simp only [es, Option.bind_some] at e
      cases e0 : ownD ρ1[i]? with
      | none => simp [e0] at e
      | some ds0 =>
        simp only [e0, Option.bind_some] at e
        cases eb : ders ρ1 os' with
        | none => simp [eb] at e
        | some ds =>
          simp only [eb, Option.bind_some] at e
          split at e
          · rename_i hc
            cases er : φ (.lst ds0 :: ds) with
            | none => simp [er] at e
            | some r =>
              obtain ⟨r, out⟩ := r
              simp only [er, Option.bind_some] at e
              cases e
              refine ⟨C, O, ρ, _, ρ1, ek, F, ea, fun vs H1 O1 F1 w1 r1 => ?_⟩
              show spF1 K n φ (vs ++ []) H1 Q E
              rw [List.append_nil]
              cases r1 with
              | cons r0 rs =>
                rename_i v0 vr
                have r0 : σ[i]? = some (some v0) := r0
                have hlen : (v0 :: vr).length = n := by
                  have := hn _ _ er
                  have l2 := (ders_lent F1 rs eb).len
                  simp at this ⊢; omega
                obtain ⟨s, hs, ow, hs2⟩ : ∃ s, ρ1[i]? = some s ∧ s.isOwn = true ∧ ∃ a xs, v0 = .ref a ∧ H1 a = some (.lst xs) ∧ Reps C.K H1 O1 ds0 xs ∧ O1 a := by
                  cases qs : ρ1[i]? with
                  | none => rw [qs] at e0; cases e0
                  | some s =>
                    rw [qs] at e0
                    have z := F1.slot i _ qs
                    cases s with
                    | un => cases e0
                    | val d => cases e0
                    | own es =>
                      cases e0
                      obtain ⟨a, xs, e1, e2, r, oa, _⟩ := z
                      rw [r0] at e1; cases e1
                      exact ⟨_, rfl, rfl, a, xs, rfl, e2, r, oa⟩
                    | bor es =>
                      cases e0
                      obtain ⟨a, xs, e1, e2, r, oa, _⟩ := z
                      rw [r0] at e1; cases e1
                      exact ⟨_, rfl, rfl, a, xs, rfl, e2, r, oa⟩
                obtain ⟨a, xs, rfl, h1, rp, oa⟩ := hs2
                refine ⟨hlen, O1, a, xs, ds0, vr, ds, r, out, rfl, er, F1.mu, oa, h1, by rw [← ek]; exact rp, by rw [← ek]; exact ders_ok F1 rs eb hc, fun v H' ys k hy hr ho => ?_⟩
                -- the heap ahead of the write
                have hX : H' = upd (fun b => if b = a then H1 a else H' b) a (.lst ys) := by
                  funext b
                  by_cases hb : b = a
                  · subst hb; rw [upd_same]; exact hy
                  · rw [upd_ne hb]; show H' b = if b = a then H1 a else H' b; rw [if_neg hb]
                have kx : ∀ b o, H1 b = some o → (fun b => if b = a then H1 a else H' b) b = some o := fun b o hb => by
                  show (if b = a then H1 a else H' b) = some o
                  by_cases hba : b = a
                  · rw [if_pos hba, ← hba]; exact hb
                  · rw [if_neg hba]; exact k b o hba hb
                have ps : ρ1[i]? = some s := hs
                have eput : putS ρ1[i]? out = s.put out := by rw [hs]; rfl
                rw [eput] at q
                have fin : ∀ {O2 : AP}, FR C O2 σ ρ1 (fun b => if b = a then H1 a else H' b) → Reps C.K H' O2 out ys → FR C O2 σ (ρ1.set i (s.put out)) H' := fun {O2} F2 ro => by
                  have z := F2.write (xs := ys) (ds := out) ps ow r0 (by rw [← hX]; exact ro)
                  rw [← hX] at z; exact z
                have fw : Fw O1 σ ρ1 H1 O1 (ρ1.set i (s.put out)) H' := by
                  refine ⟨fun b o hb n => k b o (fun z => n (z ▸ ⟨i, s, ps, ow, r0⟩)) hb, fun b hb => ?_, fun _ h => h, fun _ h => .inl h⟩
                  obtain ⟨j, t, a1, a2, a3⟩ := hb
                  by_cases hj : i = j
                  · subst hj; exact ⟨i, s, ps, ow, a3⟩
                  · rw [List.getElem?_set_ne hj] at a1; exact ⟨j, t, a1, a2, a3⟩
                cases r with
                | d x =>
                  refine q v H' O1 (fin (F1.kept kx) (by rw [ek]; exact ho)) (w1.trans fw) ?_
                  show Rep C.K _ _ _ _
                  rw [ek]; exact hr
                | nw es =>
                  obtain ⟨a', zs, ev, h0, h1', rr⟩ := hr
                  have na : a' ≠ a := fun z => by rw [z, h1] at h0; cases h0
                  have eO : (extO (.nw es) v O1) = fun b => b = a' ∨ O1 b := by
                    funext b
                    refine propext ⟨fun h => ?_, fun h => ?_⟩
                    · rcases h with h | h
                      · rw [ev] at h; cases h; exact .inl rfl
                      · exact .inr h
                    · rcases h with h | h
                      · exact .inl (by rw [ev, h])
                      · exact .inr h
                  rw [eO] at ho
                  have G := F1.grow (N := fun b => b = a') (H' := fun b => if b = a then H1 a else H' b) kx (fun p q => by rw [q]; exact h0) (fun p q => ⟨zs, by rw [q]; show (if a' = a then _ else _) = _; rw [if_neg na]; exact h1'⟩)
                  have nO : ¬ O1 a' := fun z => by
                    obtain ⟨ys, q⟩ := F1.mu a' z
                    rw [h0] at q; cases q
                  refine q v H' O1 (fin (F1.kept kx) (by rw [ek]; exact ho.less fun _ h => .inr h)) (w1.trans fw) ⟨a', zs, ev, h1', F1.h0 h0, nO, fin G (by rw [ek]; exact ho), by rw [ek]; exact rr⟩
          · cases e
end

/-! ### calls by name -/
/-- how its arguments bind where all are handed by name, the last one first -/
def KRev (K : PySem.W.Frag) (fd : FuncData) (ps : List Str) : Prop := ∀ (s : Shared) (ws : List Value), K.In s.heap → ws.length = ps.length → BindsTo s fd ⟨[], ps.reverse.zip ws⟩ (ps.zip ws.reverse)
structure Cal (P : Program) (w : World) (K : PySem.W.Frag) (mg : Str → Option Value) (base : Heap) (k : Nat) (x : Str) (ps : List Str) (sp : Sp) : Prop where
  ex : ∃ (f : Addr) (fd : FuncData), mg x = some (.ref f) ∧ PySem.W.keepIn K (.ref f) = true ∧ FnOk P w K mg base CX0 k f fd ps sp ∧ Binds K fd ps [] ∧ KRev K fd ps
/-- a def as the top leaves it -/
structure DefF (K : PySem.W.Frag) (mg : Str → Option Value) (x : Str) (st : Stmt) (ps : List Str) : Prop where
  ex : ∃ (f : Addr) (fd : FuncData), mg x = some (.ref f) ∧ PySem.W.keepIn K (.ref f) = true ∧ Fun K x x st f fd ∧ Binds K fd ps [] ∧ KRev K fd ps ∧ ∀ us : List Value, us.length = ps.length → bindArgs fd ⟨us, []⟩ = pure (ps.zip us)
theorem DefF.mk' {K : PySem.W.Frag} {mg : Str → Option Value} {h : Heap} {x : Str} {st : Stmt} {ps : List Str} {f : Addr} {oc : Value} {od an : Option Addr} {osl : Array (Option Value)} {kV doc pm cdv ct : Value} (X : K.In h) (G : h.Ns mainGlobals mg)
    (a : PySem.W.nsIn K mainGlobals x = some (some (.ref f))) (l : K.lookup f = some ⟨oc, od, .func (PySem.W.fnOf x x (defArgs st) (defBody st) (defScope st) .none kV doc pm an cdv ct), osl⟩) (c : PySem.W.codeIn K cdv x = true) (k : PySem.W.keepIn K (.ref f) = true)
    (hb : ∀ us : List Value, us.length = ps.length → bindArgs (PySem.W.fnOf x x (defArgs st) (defBody st) (defScope st) .none kV doc pm an cdv ct) ⟨us, []⟩ = pure (ps.zip us))
    (hr : ∀ us : List Value, us.length = ps.length → bindArgs (PySem.W.fnOf x x (defArgs st) (defBody st) (defScope st) .none kV doc pm an cdv ct) ⟨[], ps.reverse.zip us⟩ = pure (ps.zip us.reverse)) : DefF K mg x st ps :=
  ⟨f, _, PySem.W.mg_of X G a, k, fun_mk l c k, .all hb, fun s ws _ hl => .of_eq (hr ws hl), hb⟩
theorem DefF.cal {P : Program} {w : World} {K : PySem.W.Frag} {mg : Str → Option Value} {base : Heap} {k : Nat} {x : Str} {st : Stmt} {ps : List Str} {sp : Sp} (d : DefF K mg x st ps) (ok : ∀ (f : Addr) (fd : FuncData), Fun K x x st f fd → FnOk P w K mg base CX0 k f fd ps sp) : Cal P w K mg base k x ps sp := by
  obtain ⟨f, fd, hm, kp, F, b, kr, _⟩ := d.ex
  exact ⟨f, fd, hm, kp, ok f fd F, b, kr⟩
section
variable {X : Cx} {k n j : Nat} {x : Str} {ps : List Str} {φ : F0} {φ1 : F1} {e : Expr} {es : List Expr} {fa : FA} {p pos : Pos}
theorem d_call (c : Cal X.prog X.w X.K X.mg X.base k x ps (spF0 X.K n φ)) (hn : ∀ ds r, φ ds = some r → ds.length = n) (hr : Room j X.A) (hk : k ≤ j) (ha : PA X (e :: es) (tAr X.K fa)) (hg : Gl X x := by rfl)
    (hdb : (x == ("__debug__" : Str)) = false := by decide) (he : starEach (e :: es) X.env = (false, eval e X.env) :: starEach es X.env := by rfl) (hpl : (backTo pos (starEach es X.env)).any (·.1) = false := by rfl) :
    PE X (.Call (.Name x p) (e :: es) [] pos) (tF X.K (fCall φ fa)) := by
  obtain ⟨f, fd, hm, kp, F, b, _⟩ := c.ex
  exact (pe_call F (hr.mono hk) hg hm kp b .nil pass0 ha hdb he hpl).imp fun σ H Q h => tCallD hn h
theorem d_call1 (c : Cal X.prog X.w X.K X.mg X.base k x ps (spF1 X.K n φ1)) (hn : ∀ ds r, φ1 ds = some r → ds.length = n) (hr : Room j X.A) (hk : k ≤ j) (ha : PA X (e :: es) (tAr X.K fa)) (hg : Gl X x := by rfl)
    (hdb : (x == ("__debug__" : Str)) = false := by decide) (he : starEach (e :: es) X.env = (false, eval e X.env) :: starEach es X.env := by rfl) (hpl : (backTo pos (starEach es X.env)).any (·.1) = false := by rfl) :
    PE X (.Call (.Name x p) (e :: es) [] pos) (tF X.K (fCall1 φ1 fa)) := by
  obtain ⟨f, fd, hm, kp, F, b, _⟩ := c.ex
  exact (pe_call F (hr.mono hk) hg hm kp b .nil pass0 ha hdb he hpl).imp fun σ H Q h => tCallD1 hn h
end

/-! ### statements: what is wanted behind them -/
inductive Out where
  | nx (ρ : Ev) | rt (o : Opd) (ρ : Ev) | bk (ρ : Ev) | ct (ρ : Ev)
abbrev FS := Ev → Option Out
def Pst (C : Fc) (D : Ends) : Out → Prop
  | .nx ρ => ∀ σ H O, FR C O σ ρ H → D.nx σ H
  | .rt o ρ => ∀ v σ H O, FR C O σ ρ H → OpR C O σ ρ H v o → D.rt v H
  | .bk ρ => ∀ σ H O, FR C O σ ρ H → D.bk σ H
  | .ct ρ => ∀ σ H O, FR C O σ ρ H → D.ct σ H
def tS (K : PySem.W.Frag) (g : FS) : TS := fun D σ H => ∃ C O ρ out, C.K = K ∧ FR C O σ ρ H ∧ g ρ = some out ∧ Pst C D out
/-! a def's end -/
def rtS : Option Sl → Option Rt
  | some (.own ds) => some (.nw ds)
  | _ => none
def rtOf : Opd → Ev → Option Rt
  | .d x, _ => some (.d x)
  | .nw ds, _ => some (.nw ds)
  | .sl i, ρ => rtS ρ[i]?
def run0 (N : Nat) (g : FS) (ds : List D) : Option Rt := (g (ds.map Sl.val ++ List.replicate (N - ds.length) Sl.un)).bind fun out => match out with
  | .rt o ρ => rtOf o ρ
  | .nx _ => some (.d .non)
  | _ => none
def borD : Option Sl → Option (List D)
  | some (.bor ds) => some ds
  | _ => none
def run1 (N : Nat) (g : FS) (ds : List D) : Option (Rt × List D) := match ds with
  | .lst ds0 :: ds => (g (Sl.bor ds0 :: ds.map Sl.val ++ List.replicate (N - (ds.length + 1)) Sl.un)).bind fun out => match out with
    | .rt o ρ => (rtOf o ρ).bind fun r => (borD ρ[0]?).bind fun out => some (r, out)
    | .nx ρ => (borD ρ[0]?).bind fun out => some (.d .non, out)
    | _ => none
  | _ => none
section
variable {P : Program} {w : World} {K : PySem.W.Frag} {mg : Str → Option Value} {base : Heap}
theorem start_get {N : List Str} {vs : List V} {i : Nat} {v : V} (h : vs[i]? = some v) : (L2.start N vs)[i]? = some (some v) := by
  unfold L2.start
  have hi := (List.getElem?_eq_some_iff.mp h).1
  rw [List.getElem?_append_left (by simpa using hi), List.getElem?_map, h]; rfl
theorem rtOf_ok {C : Fc} {O : AP} {σ : L2.St} {ρ : Ev} {H : Hp} {v : V} {o : Opd} {r : Rt} (F : FR C O σ ρ H) (h : OpR C O σ ρ H v o) (e : rtOf o ρ = some r) :
    (∃ x, r = .d x ∧ Rep C.K H O x v) ∨ (∃ ds a xs, r = .nw ds ∧ v = .ref a ∧ C.H0 a = none ∧ H a = some (.lst xs) ∧ ∃ O2 : AP, O2 a ∧ (∀ b, O b → O2 b) ∧ FR C O2 σ ρ H ∧ Reps C.K H O2 ds xs) := by
  cases o with
  | d x => cases e; exact .inl ⟨x, rfl, h⟩
  | nw ds =>
    cases e
    obtain ⟨a, xs, e, h1, h0, no, G, r⟩ := h
    exact .inr ⟨ds, a, xs, rfl, e, h0, h1, _, .inl rfl, fun _ h => .inr h, G, r⟩
  | sl i =>
    obtain ⟨_, q⟩ := h
    have e : rtS ρ[i]? = some r := e
    cases e0 : ρ[i]? with
    | none => rw [e0] at e; cases e
    | some s =>
      rw [e0] at e
      cases s with
      | own ds =>
        cases e
        obtain ⟨a, xs, e1, e2, r, oa, h0⟩ := F.slot i _ e0
        rw [q] at e1; cases e1
        exact .inr ⟨ds, a, xs, rfl, rfl, h0, e2, O, oa, fun _ h => h, F, r⟩
      | _ => cases e
/-- THE RULE: a def over data, by its body -/
theorem fn_ok0 {x qual : Str} {st : Stmt} {f : Addr} {fd : FuncData} {N ps : List Str} {k : Nat} {φ : F0} {g : FS} (F : Fun K x qual st f fd) (S : FnScope N ps (defScope st)) (hφ : ∀ ds r, φ ds = some r → ds.length = ps.length ∧ run0 N.length g ds = some r)
    (body : ∀ (cdv : Value) (A : Around) (outer : List Env) (s : Shared) (H : Hp) (E : XK), Room k (A.deeper (envOfC qual (defScope st) s.heap.objs.size f cdv)) →
      PSs (cxOf CX0 P w K mg base N qual (defScope st) f cdv A outer s H E).nox (defBody st) (tS K g)) : FnOk P w K mg base CX0 (k + 1) f fd ps (spF0 K ps.length φ) := by
  refine F.ok S (fun vs H Q E h => h.1) (fun cdv A outer s H vs Q E hr h => ⟨_, body cdv A outer s H E hr, ?_⟩)
  obtain ⟨hl, O, ds, r, er, ol, rp, q⟩ := h
  obtain ⟨hlen, hrun⟩ := hφ ds r er
  have hN : ps.length ≤ N.length := by have := congrArg List.length S.pre; rw [List.length_take] at this; omega
  have rl := rp.len
  unfold run0 at hrun
  cases eg : g (ds.map Sl.val ++ List.replicate (N.length - ds.length) Sl.un) with
  | none => rw [eg] at hrun; cases hrun
  | some out =>
    rw [eg, Option.bind_some] at hrun
    have kept : ∀ {σ ρ H' O'}, FR ⟨K, H, none, O, []⟩ O' σ ρ H' → ∀ b o, H b = some o → H' b = some o := fun F b o e => F.keep b o e (by simp)
    refine ⟨⟨K, H, none, O, []⟩, O, _, out, rfl, ⟨?_, fun b o e _ => e, ol, fun _ h => h, ol, fun a h => (nomatch h), fun i s e => ?_, fun i j si sj a ei oi => ?_, fun p h => (nomatch h)⟩, eg, ?_⟩
    · unfold L2.start; simp; omega
    · by_cases hi : i < ds.length
      · rw [List.getElem?_append_left (by simpa using hi), List.getElem?_map, List.getElem?_eq_getElem hi] at e
        cases e
        obtain ⟨v, ev, rv⟩ := rp.get (List.getElem?_eq_getElem hi)
        exact ⟨v, start_get ev, rv⟩
      · rw [List.getElem?_append_right (by simpa using hi), List.getElem?_replicate] at e
        split at e
        · cases e; trivial
        · cases e
    · exfalso
      by_cases hi : i < ds.length
      · rw [List.getElem?_append_left (by simpa using hi), List.getElem?_map, List.getElem?_eq_getElem hi] at ei
        cases ei; cases oi
      · rw [List.getElem?_append_right (by simpa using hi), List.getElem?_replicate] at ei
        split at ei
        · cases ei; cases oi
        · cases ei
    · cases out with
      | nx ρ' =>
        cases hrun
        exact fun σ' H' O' F' => q .non H' (kept F') (by show Rep _ _ _ _ _; rw [Rep])
      | bk ρ' => cases hrun
      | ct ρ' => cases hrun
      | rt o ρ' =>
        refine fun v σ' H' O' F' hv => q v H' (kept F') ?_
        rcases rtOf_ok F' hv hrun with ⟨x, rfl, rx⟩ | ⟨es, a, xs, rfl, ev, h0, h1, O2, oa, s2, _, rr⟩
        · exact Rep.less (fun a h => F'.sub a h) rx
        · exact ⟨a, xs, ev, h0, h1, rr.less fun b hb => hb.elim (fun z => by rw [z]; exact oa) fun z => s2 b (F'.sub b z)⟩
theorem fn_ok1 {x qual : Str} {st : Stmt} {f : Addr} {fd : FuncData} {N ps : List Str} {k : Nat} {φ : F1} {g : FS} (F : Fun K x qual st f fd) (S : FnScope N ps (defScope st)) (hφ : ∀ ds r, φ ds = some r → ds.length = ps.length ∧ run1 N.length g ds = some r)
    (body : ∀ (cdv : Value) (A : Around) (outer : List Env) (s : Shared) (H : Hp) (E : XK), Room k (A.deeper (envOfC qual (defScope st) s.heap.objs.size f cdv)) →
      PSs (cxOf CX0 P w K mg base N qual (defScope st) f cdv A outer s H E).nox (defBody st) (tS K g)) : FnOk P w K mg base CX0 (k + 1) f fd ps (spF1 K ps.length φ) := by
  refine F.ok S (fun vs H Q E h => h.1) (fun cdv A outer s H vs Q E hr h => ⟨_, body cdv A outer s H E hr, ?_⟩)
  obtain ⟨hl, O, a, xs, ds0, vr, ds, r, out0, rfl, er, ol, oa, ha, rp0, rp, q⟩ := h
  obtain ⟨hlen, hrun⟩ := hφ _ _ er
  have hN : ps.length ≤ N.length := by have := congrArg List.length S.pre; rw [List.length_take] at this; omega
  have rl := rp.len
  unfold run1 at hrun
  simp only at hrun
  simp only [List.length_cons] at hlen hl
  cases eg : g (Sl.bor ds0 :: ds.map Sl.val ++ List.replicate (N.length - (ds.length + 1)) Sl.un) with
  | none => rw [eg] at hrun; cases hrun
  | some out =>
    rw [eg, Option.bind_some] at hrun
    have kept : ∀ {σ ρ H' O'}, FR ⟨K, H, some a, O, []⟩ O' σ ρ H' → ∀ b o, b ≠ a → H b = some o → H' b = some o := fun F b o n e => F.keep b o e (by simp; exact fun z => n z.symm)
    have bor : ∀ {σ ρ H' O' es}, FR ⟨K, H, some a, O, []⟩ O' σ ρ H' → borD ρ[0]? = some es → ∃ ys, H' a = some (.lst ys) ∧ Reps K H' O' es ys := fun {σ ρ H' O' es} F e => by
      unfold borD at e
      split at e
      · rename_i e0
        cases e
        obtain ⟨b, ys, e1, e2, r, _, eb⟩ := F.slot 0 _ e0
        cases eb
        exact ⟨ys, e2, r⟩
      · cases e
    refine ⟨⟨K, H, some a, O, []⟩, O, _, out, rfl, ⟨?_, fun b o e _ => e, ol, fun _ h => h, ol, fun b h => (by cases h; exact oa), fun i s e => ?_, fun i j si sj b ei oi ej oj qi qj => ?_, fun p h => (nomatch h)⟩, eg, ?_⟩
    · unfold L2.start; simp; omega
    · cases i with
      | zero =>
        cases e
        exact ⟨a, xs, start_get rfl, ha, rp0, oa, rfl⟩
      | succ i =>
        by_cases hi : i < ds.length
        · rw [List.getElem?_append_left (by simpa using hi), List.getElem?_cons_succ, List.getElem?_map, List.getElem?_eq_getElem hi] at e
          cases e
          obtain ⟨v, ev, rv⟩ := rp.get (List.getElem?_eq_getElem hi)
          exact ⟨v, start_get (by simpa using ev), rv⟩
        · rw [List.getElem?_append_right (by simpa using hi), List.getElem?_replicate] at e
          split at e
          · cases e; trivial
          · cases e
    · have zero : ∀ {i : Nat} {s : Sl}, (Sl.bor ds0 :: ds.map Sl.val ++ List.replicate (N.length - (ds.length + 1)) Sl.un)[i]? = some s → s.isOwn = true → i = 0 := fun {i s} e o => by
        cases i with
        | zero => rfl
        | succ i =>
          exfalso
          by_cases hi : i < ds.length
          · rw [List.getElem?_append_left (by simpa using hi), List.getElem?_cons_succ, List.getElem?_map, List.getElem?_eq_getElem hi] at e
            cases e; cases o
          · rw [List.getElem?_append_right (by simpa using hi), List.getElem?_replicate] at e
            split at e
            · cases e; cases o
            · cases e
      rw [zero ei oi, zero ej oj]
    · cases out with
      | nx ρ' =>
        simp only at hrun
        cases eb : borD ρ'[0]? with
        | none => rw [eb] at hrun; cases hrun
        | some es =>
          rw [eb, Option.bind_some] at hrun
          cases hrun
          refine fun σ' H' O' F' => ?_
          obtain ⟨ys, h1, r1⟩ := bor F' eb
          exact q .non H' ys (kept F') h1 (by show Rep _ _ _ _ _; rw [Rep]) (r1.less fun b h => F'.sub b h)
      | bk ρ' => cases hrun
      | ct ρ' => cases hrun
      | rt o ρ' =>
        simp only at hrun
        cases ert : rtOf o ρ' with
        | none => rw [ert] at hrun; cases hrun
        | some r' =>
          rw [ert, Option.bind_some] at hrun
          cases eb : borD ρ'[0]? with
          | none => rw [eb] at hrun; cases hrun
          | some es =>
            rw [eb, Option.bind_some] at hrun
            cases hrun
            refine fun v σ' H' O' F' hv => ?_
            rcases rtOf_ok F' hv ert with ⟨x, rfl, rx⟩ | ⟨es', b, zs, rfl, ev, h0, h1, O2, ob, s2, G, rr⟩
            · obtain ⟨ys, h1, r1⟩ := bor F' eb
              exact q v H' ys (kept F') h1 (Rep.less (fun a h => F'.sub a h) rx) (r1.less fun b h => F'.sub b h)
            · obtain ⟨ys, h2, r2⟩ := bor G eb
              refine q v H' ys (kept F') h2 ⟨b, zs, ev, h0, h1, rr.less fun c hc => hc.elim (fun z => by rw [z]; exact ob) fun z => s2 c (F'.sub c z)⟩ (r2.less fun c hc => ?_)
              rcases hc with hc | hc
              · rw [ev] at hc; cases hc; exact ob
              · exact s2 c (F'.sub c hc)
end
end Dv

set_option Elab.async false
set_option linter.all false
set_option maxRecDepth 100000
set_option maxHeartbeats 2000000
/-! statements over data -/
namespace Dv
open PySem PySem.Spec PyProof.Rows L2

/-! ### small statements -/
def sSeq (g h : FS) : FS := fun ρ => (g ρ).bind fun o => match o with
  | .nx ρ' => h ρ'
  | o => some o
def sSkip : FS := fun ρ => some (.nx ρ)
def sRet (f : FE) : FS := fun ρ => (f ρ).bind fun p => some (.rt p.1 p.2)
def sRetN : FS := fun ρ => some (.rt (.d .non) ρ)
def sIf (ft : FT) (g h : FS) : FS := fun ρ => (ft ρ).bind fun p => if p.1 then g p.2 else h p.2
def sBreak : FS := fun ρ => some (.bk ρ)
def sCont : FS := fun ρ => some (.ct ρ)
def sStuck : FS := fun _ => none
def sDrop (f : FE) : FS := fun ρ => (f ρ).bind fun p => some (.nx p.2)
def stV (i : Nat) : Opd × Ev → Option Out := fun p => (esc p.1 p.2).bind fun q => some (.nx (q.2.set i (.val q.1)))
def sSet (i : Nat) (f : FE) : FS := fun ρ => (f ρ).bind (stV i)
def stO (i : Nat) : Opd × Ev → Option Out
  | (.nw ds, ρ) => some (.nx (ρ.set i (.own ds)))
  | _ => none
def sOwn (i : Nat) (f : FE) : FS := fun ρ => (f ρ).bind (stO i)
section
variable {X : Cx} {K : PySem.W.Frag} {C : Fc} {O O' : AP} {σ : L2.St} {ρ ρ' : Ev} {H H' : Hp} {e : Expr} {st : Stmt} {rest sa sb : List Stmt} {f : FE} {ft : FT} {g h : FS} {pos : Pos}
theorem s_nil : PSs X [] (tS X.K sSkip) := pss_nil.imp fun D σ H h => by
  obtain ⟨C, O, ρ, o, ek, F, e, p⟩ := h
  cases e
  exact p σ H O F
theorem s_cons (h1 : PS X st (tS X.K g)) (h2 : PSs X rest (tS X.K h)) : PSs X (st :: rest) (tS X.K (sSeq g h)) := (pss_cons h1 h2).imp fun D σ H hh => by
  obtain ⟨C, O, ρ, o, ek, F, e, p⟩ := hh
  unfold sSeq at e
  cases eg : g ρ with
  | none => rw [eg] at e; cases e
  | some o1 =>
    rw [eg, Option.bind_some] at e
    refine ⟨C, O, ρ, o1, ek, F, eg, ?_⟩
    cases o1 with
    | nx ρ1 => exact fun σ1 H1 O1 F1 => ⟨C, O1, ρ1, o, ek, F1, e, p⟩
    | rt o2 ρ2 => cases e; exact p
    | bk ρ2 => cases e; exact p
    | ct ρ2 => cases e; exact p
theorem s_one (h1 : PS X st (tS X.K g)) : PSs X [st] (tS X.K g) := pss_one h1
theorem s_ret (he : PE X e (tF X.K f)) : PS X (.Return (some e) pos) (tS X.K (sRet f)) := (ps_ret he).imp fun D σ H h => by
  obtain ⟨C, O, ρ, o, ek, F, e, p⟩ := h
  unfold sRet at e
  cases ea : f ρ with
  | none => rw [ea] at e; cases e
  | some q =>
    obtain ⟨o1, ρ1⟩ := q
    rw [ea, Option.bind_some] at e
    cases e
    exact ⟨C, O, ρ, o1, ρ1, ek, F, ea, fun v H1 O1 F1 _ r => p v σ H1 O1 F1 r⟩
theorem s_stuck : PS X st (tS X.K sStuck) := ps_never.imp fun D σ H h => by
  obtain ⟨C, O, ρ, o, ek, F, e, p⟩ := h
  cases e
theorem s_if {c : Expr} (hc : PT X c (tT X.K ft)) (ha : PSs X sa (tS X.K g)) (hb : PSs X sb (tS X.K h)) : PS X (.If c sa sb pos) (tS X.K (sIf ft g h)) := (ps_if hc ha hb).imp fun D σ H hh => by
  obtain ⟨C, O, ρ, o, ek, F, e, p⟩ := hh
  unfold sIf at e
  cases ea : ft ρ with
  | none => rw [ea] at e; cases e
  | some q =>
    obtain ⟨b, ρ1⟩ := q
    rw [ea, Option.bind_some] at e
    refine ⟨C, O, ρ, b, ρ1, ek, F, ea, fun H1 O1 F1 w => ?_⟩
    cases b with
    | true => exact ⟨C, O1, ρ1, o, ek, F1, e, p⟩
    | false => exact ⟨C, O1, ρ1, o, ek, F1, e, p⟩
theorem s_drop (he : PE X e (tF X.K f)) (hs : swapsWith e none pos.line X.env = pure false := by rfl) : PS X (.Expr e pos) (tS X.K (sDrop f)) := (ps_expr he hs).imp fun D σ H h => by
  obtain ⟨C, O, ρ, o, ek, F, e, p⟩ := h
  unfold sDrop at e
  cases ea : f ρ with
  | none => rw [ea] at e; cases e
  | some q =>
    obtain ⟨o1, ρ1⟩ := q
    rw [ea, Option.bind_some] at e
    cases e
    exact ⟨C, O, ρ, o1, ρ1, ek, F, ea, fun v H1 O1 F1 _ r => p σ H1 O1 F1⟩
theorem stV_ok {i : Nat} {o : Opd} {v : V} {out : Out} {D : Ends} (r : OpR C O σ ρ H v o) (F : FR C O σ ρ H) (e : stV i (o, ρ) = some out) (p : Pst C D out) : D.nx (σ.set i (some v)) H := by
  unfold stV at e
  simp only at e
  cases ee : esc o ρ with
  | none => rw [ee] at e; cases e
  | some q =>
    obtain ⟨x, ρ2⟩ := q
    rw [ee, Option.bind_some] at e
    cases e
    obtain ⟨O2, F2, w2, r2⟩ := esc_ok r.w F ee
    exact p _ H O2 (F2.setv r2)
theorem tSetV {i : Nat} {D : Ends} (h : tS K (sSet i f) D σ H) : tAsg (tF K f) (gName i) D σ H := by
  obtain ⟨C, O, ρ, o, ek, F, e, p⟩ := h
  unfold sSet at e
  cases ea : f ρ with
  | none => rw [ea] at e; cases e
  | some q =>
    obtain ⟨o1, ρ1⟩ := q
    rw [ea, Option.bind_some] at e
    exact ⟨C, O, ρ, o1, ρ1, ek, F, ea, fun v H1 O1 F1 _ r => stV_ok r F1 e p⟩
theorem tSetO {i : Nat} {D : Ends} (h : tS K (sOwn i f) D σ H) : tAsg (tF K f) (gName i) D σ H := by
  obtain ⟨C, O, ρ, o, ek, F, e, p⟩ := h
  unfold sOwn at e
  cases ea : f ρ with
  | none => rw [ea] at e; cases e
  | some q =>
    obtain ⟨o1, ρ1⟩ := q
    rw [ea, Option.bind_some] at e
    refine ⟨C, O, ρ, o1, ρ1, ek, F, ea, fun v H1 O1 F1 _ r => ?_⟩
    cases o1 with
    | d x => cases e
    | sl x => cases e
    | nw ds =>
      cases e
      obtain ⟨a, xs, rfl, h1, h0, no, G, rr⟩ := r
      exact p _ H1 _ (G.setown h1 rr (.inl rfl) h0 fun z => no (F1.ownO z))
theorem s_set {i : Nat} {x : Str} {pos' : Pos} (hN : X.N.Nodup) (he : PE X e (tF X.K f)) (hi : X.N[i]? = some x := by rfl) (hx : Loc X.env.scope x := by first | exact Or.inl rfl | exact Or.inr rfl) (hs : swapsWith e (some (.Name x pos')) pos.line X.env = pure false := by rfl) (hf : X.fn x = true ∨ X.env.scope.names.lookup x = some .local := by first | exact .inl rfl | exact .inr rfl | assumption) :
    PS X (.Assign [.Name x pos'] e pos) (tS X.K (sSet i f)) := (ps_set hN hi hx he hs hf).imp fun D σ H h => tSetV h
theorem s_own {i : Nat} {x : Str} {pos' : Pos} (hN : X.N.Nodup) (he : PE X e (tF X.K f)) (hi : X.N[i]? = some x := by rfl) (hx : Loc X.env.scope x := by first | exact Or.inl rfl | exact Or.inr rfl) (hs : swapsWith e (some (.Name x pos')) pos.line X.env = pure false := by rfl) (hf : X.fn x = true ∨ X.env.scope.names.lookup x = some .local := by first | exact .inl rfl | exact .inr rfl | assumption) :
    PS X (.Assign [.Name x pos'] e pos) (tS X.K (sOwn i f)) := (ps_set hN hi hx he hs hf).imp fun D σ H h => tSetO h
end

/-! ### targets -/
inductive Tg where
  | nm (i : Nat) | tp (is : List Nat)
def setAll : List Nat → List D → Ev → Option Ev
  | [], [], ρ => some ρ
  | i :: is, d :: ds, ρ => setAll is ds (ρ.set i (.val d))
  | _, _, _ => none
def bindT : Tg → D → Ev → Option Ev
  | .nm i, d, ρ => some (ρ.set i (.val d))
  | .tp is, .tup ds, ρ => setAll is ds ρ
  | .tp _, _, _ => none
def Tg.sl : Tg → List Nat
  | .nm i => [i]
  | .tp is => is
/-- only these slots were stored -/
def Only (is : List Nat) (σ σ' : L2.St) : Prop := σ'.length = σ.length ∧ ∀ j, j ∉ is → σ'[j]? = σ[j]?
def tG (K : PySem.W.Frag) (t : Tg) : TG := fun v σ H Q => ∃ C O ρ d ρ', C.K = K ∧ FR C O σ ρ H ∧ Rep K H O d v ∧ bindT t d ρ = some ρ' ∧ ∀ σ', FR C O σ' ρ' H → Only t.sl σ σ' → Q σ' H
def tGs (K : PySem.W.Frag) (is : List Nat) : TGs := fun vs σ H Q => ∃ C O ρ ds ρ', C.K = K ∧ FR C O σ ρ H ∧ Reps K H O ds vs ∧ setAll is ds ρ = some ρ' ∧ ∀ σ', FR C O σ' ρ' H → Only is σ σ' → Q σ' H
theorem _root_.L2.PG.imp {X : Cx} {e : Expr} {t t' : TG} (h : PG X e t) (i : ∀ v σ H Q, t' v σ H Q → t v σ H Q) : PG X e t' := ⟨fun pins s σ H v u Q I r q => h.run pins s σ H v u Q I r (i v σ H Q q)⟩
theorem _root_.L2.PGs.imp {X : Cx} {e : List Expr} {t t' : TGs} (h : PGs X e t) (i : ∀ v σ H Q, t' v σ H Q → t v σ H Q) : PGs X e t' := ⟨fun pins s σ H v u Q I r q => h.run pins s σ H v u Q I r (i v σ H Q q)⟩
theorem only_set {i : Nat} {x : Option V} {σ : L2.St} : Only [i] σ (σ.set i x) := ⟨by simp, fun j hj => List.getElem?_set_ne (fun e => hj (by simp [e]))⟩
section
variable {X : Cx} {e : Expr} {es : List Expr} {f : FE} {pos : Pos}
theorem g_name {i : Nat} {x : Str} (hN : X.N.Nodup) (hi : X.N[i]? = some x := by rfl) (hx : Loc X.env.scope x := by first | exact Or.inl rfl | exact Or.inr rfl) (hf : X.fn x = true ∨ X.env.scope.names.lookup x = some .local := by first | exact .inl rfl | exact .inr rfl | assumption) :
    PG X (.Name x pos) (tG X.K (.nm i)) := (pg_name hN hi hx hf).imp fun v σ H Q h => by
  obtain ⟨C, O, ρ, d, ρ', ek, F, r, e, q⟩ := h
  cases e
  exact q _ (F.setv (by rw [ek]; exact r)) only_set
theorem gs_nil : PGs X [] (tGs X.K []) := pgs_nil.imp fun vs σ H Q h => by
  obtain ⟨C, O, ρ, ds, ρ', ek, F, r, e, q⟩ := h
  cases ds with
  | nil =>
    cases e
    rw [Reps] at r
    exact ⟨r, q σ F ⟨rfl, fun _ _ => rfl⟩⟩
  | cons d ds => cases e
theorem gs_cons {i : Nat} {is : List Nat} {x : Str} (hN : X.N.Nodup) (h2 : PGs X es (tGs X.K is)) (hi : X.N[i]? = some x := by rfl) (hx : Loc X.env.scope x := by first | exact Or.inl rfl | exact Or.inr rfl) (hf : X.fn x = true ∨ X.env.scope.names.lookup x = some .local := by first | exact .inl rfl | exact .inr rfl | assumption)
    (hs : (assignEach (.Name x pos :: es) X.env).map (·.2) = assign (.Name x pos) X.env :: (assignEach es X.env).map (·.2) := by rfl) : PGs X (.Name x pos :: es) (tGs X.K (i :: is)) := (pgs_cons (pg_name hN hi hx hf) h2 hs).imp fun vs σ H Q h => by
  obtain ⟨C, O, ρ, ds, ρ', ek, F, r, e, q⟩ := h
  cases ds with
  | nil => cases e
  | cons d ds =>
    rw [Reps] at r
    obtain ⟨v, rs, rfl, r1, r2⟩ := r
    refine ⟨v, rs, rfl, C, O, ρ.set i (.val d), ds, ρ', ek, F.setv (by rw [ek]; exact r1), r2, e, fun σ' F' o => q σ' F' ⟨o.1.trans (by simp), fun j hj => ?_⟩⟩
    simp only [List.mem_cons, not_or] at hj
    rw [o.2 j hj.2, List.getElem?_set_ne (fun z => hj.1 z.symm)]
theorem setAll_len : ∀ {is : List Nat} {ds : List D} {ρ ρ' : Ev}, setAll is ds ρ = some ρ' → ds.length = is.length
  | [], [], _, _, _ => rfl
  | [], _ :: _, _, _, h => by cases h
  | _ :: _, [], _, _, h => by cases h
  | _ :: _, _ :: _, _, _, h => congrArg (· + 1) (setAll_len h)
theorem g_tup {k : Nat} {is : List Nat} (hc : X.calm = true) (h : PGs X es (tGs X.K is)) (hn : (assignEach es X.env).length = is.length := by rfl) (hst : (assignEach es X.env).findIdx? (·.1) = none := by rfl) : PG X (.Tuple es k pos) (tG X.K (.tp is)) :=
  (pg_tup hc h hn hst).imp fun v σ H Q h => by
    obtain ⟨C, O, ρ, d, ρ', ek, F, r, e, q⟩ := h
    cases d <;> try (cases e; done)
    rename_i ds
    obtain ⟨a, xs, rfl, hs, rr⟩ := rp_tup r
    exact ⟨a, xs, rfl, hs, by rw [← rr.len]; exact setAll_len e, C, O, ρ, ds, ρ', ek, F, rr, e, q⟩
/-- a, b, .. = a tuple -/
def stT (t : Tg) : Opd × Ev → Option Out := fun p => (esc p.1 p.2).bind fun q => (bindT t q.1 q.2).bind fun ρ => some (.nx ρ)
def sUnp (t : Tg) (f : FE) : FS := fun ρ => (f ρ).bind (stT t)
theorem s_unp {tg : Expr} {t : Tg} (he : PE X e (tF X.K f)) (hg : PG X tg (tG X.K t)) (hs : swapsWithSole [tg] e pos.line X.env = pure false := by rfl) (hw : swappedStores [tg] e X.env = pure none := by rfl)
    (h1 : (assignEach [tg] X.env).map (·.2) = [assign tg X.env] := by rfl) : PS X (.Assign [tg] e pos) (tS X.K (sUnp t f)) := (ps_asg he hg hs hw h1).imp fun D σ H h => by
  obtain ⟨C, O, ρ, o, ek, F, e, p⟩ := h
  unfold sUnp at e
  cases ea : f ρ with
  | none => rw [ea] at e; cases e
  | some q =>
    obtain ⟨o1, ρ1⟩ := q
    rw [ea, Option.bind_some] at e
    unfold stT at e
    simp only at e
    cases ee : esc o1 ρ1 with
    | none => rw [ee] at e; cases e
    | some q =>
      obtain ⟨x, ρ2⟩ := q
      rw [ee, Option.bind_some] at e
      simp only at e
      cases eb : bindT t x ρ2 with
      | none => rw [eb] at e; cases e
      | some ρ3 =>
        rw [eb, Option.bind_some] at e
        cases e
        refine ⟨C, O, ρ, o1, ρ1, ek, F, ea, fun v H1 O1 F1 w r => ?_⟩
        obtain ⟨O2, F2, w2, r2⟩ := esc_ok r.w F1 ee
        exact ⟨C, O2, ρ2, x, ρ3, ek, F2, by rw [← ek]; exact r2, eb, fun σ' F' _ => p σ' H1 O2 F'⟩
end

/-! ### several plain names at once: a, b = x, y -/
structure PendA (C : Fc) (O : AP) (σ : L2.St) (ρ : Ev) (H : Hp) (a : Addr) (ds : List D) : Prop where
  ex : ∃ xs, H a = some (.lst xs) ∧ Reps C.K H O ds xs
  h0 : C.H0 a = none
  o : O a
  no : ¬ OwnA σ ρ a
inductive OpPs (C : Fc) (O : AP) (σ : L2.St) (ρ : Ev) (H : Hp) : List V → List Opd → List Addr → Prop
  | nil : OpPs C O σ ρ H [] [] []
  | val {v : V} {o : Opd} {vs : List V} {os : List Opd} {N : List Addr} : OpW C O σ H v o → (∀ ds, o ≠ .nw ds) → OpPs C O σ ρ H vs os N → OpPs C O σ ρ H (v :: vs) (o :: os) N
  | new {a : Addr} {ds : List D} {vs : List V} {os : List Opd} {N : List Addr} : PendA C O σ ρ H a ds → a ∉ N → OpPs C O σ ρ H vs os N → OpPs C O σ ρ H (.ref a :: vs) (.nw ds :: os) (a :: N)
/-- as Fw, but any addresses may be kept out besides -/
structure Fh (O : AP) (σ : L2.St) (ρ : Ev) (H : Hp) (O' : AP) (ρ' : Ev) (H' : Hp) : Prop where
  kp : ∀ b o, H b = some o → ¬ OwnA σ ρ b → H' b = some o
  own : ∀ b, OwnA σ ρ' b → OwnA σ ρ b
  stay : ∀ a, O a → O' a ∨ OwnA σ ρ a
section
variable {X : Cx} {K : PySem.W.Frag} {C : Fc} {O O' O2 : AP} {σ : L2.St} {ρ ρ' ρ2 : Ev} {H H' H2 : Hp}
theorem Fh.trans (a : Fh O σ ρ H O' ρ' H') (b : Fh O' σ ρ' H' O2 ρ2 H2) : Fh O σ ρ H O2 ρ2 H2 :=
  ⟨fun c o h n => b.kp c o (a.kp c o h n) fun z => n (a.own c z), fun c h => a.own c (b.own c h), fun c h => (a.stay c h).elim (fun z => (b.stay c z).imp id (a.own c)) .inr⟩
/-- the values, evaluated one behind another; new lists kept out of all trees -/
def tAp (K : PySem.W.Frag) (f : FA) : TA := fun σ H Q => ∃ C O ρ os ρ', C.K = K ∧ FR C O σ ρ H ∧ f ρ = some (os, ρ') ∧ ∀ vs H' O' N, FR C O' σ ρ' H' → Fh O σ ρ H O' ρ' H' → OpPs C O' σ ρ' H' vs os N → (∀ a ∈ N, O a → OwnA σ ρ a) → Q vs H'
theorem ap_nil : PA X [] (tAp X.K aNil) := pa_nil.imp fun σ H Q h => by
  obtain ⟨C, O, ρ, o, ρ', ek, F, e, q⟩ := h
  cases e
  exact q [] H O [] F ⟨fun _ _ h _ => h, fun _ h => h, fun _ h => .inl h⟩ .nil fun _ h => nomatch h
theorem reps_zip : ∀ {ds : List D} {xs : List V}, Reps K H O ds xs ↔ ds.length = xs.length ∧ ∀ p, p ∈ ds.zip xs → Rep K H O p.1 p.2
  | [], [] => by rw [Reps]; simp
  | [], x :: xs => by rw [Reps]; simp
  | d :: ds, [] => by rw [Reps]; simp
  | d :: ds, x :: xs => by
    rw [Reps]
    constructor
    · rintro ⟨v, r, e, h1, h2⟩
      cases e
      obtain ⟨l, z⟩ := reps_zip.mp h2
      refine ⟨by simp [l], fun p hp => ?_⟩
      rw [List.zip_cons_cons, List.mem_cons] at hp
      rcases hp with rfl | hp
      · exact h1
      · exact z p hp
    · rintro ⟨l, z⟩
      refine ⟨x, xs, rfl, z (d, x) (by simp), reps_zip.mpr ⟨by simpa using l, fun p hp => z p (by rw [List.zip_cons_cons]; exact List.mem_cons_of_mem _ hp)⟩⟩
theorem OpPs.drop {G : List (D × V)} {vs : List V} {os : List Opd} {N : List Addr} (p : OpPs { C with G := G } O σ ρ H vs os N) : OpPs C O σ ρ H vs os N := by
  induction p with
  | nil => exact .nil
  | val h n _ ih => exact .val h n ih
  | new h n _ ih => exact .new ⟨h.ex, h.h0, h.o, h.no⟩ n ih
theorem ap_cons {e : Expr} {es : List Expr} {f : FE} {g : FA} (ha : PE X e (tF X.K f)) (hr : PA X es (tAp X.K g)) (hs : starEach (e :: es) X.env = (false, eval e X.env) :: starEach es X.env := by rfl) : PA X (e :: es) (tAp X.K (aCons f g)) := (pa_cons ha hr hs).imp fun σ H Q h => by
  obtain ⟨C, O, ρ, o, ρ', ek, F, e, q⟩ := h
  unfold aCons at e
  cases ea : f ρ with
  | none => rw [ea] at e; cases e
  | some p =>
    obtain ⟨o1, ρ1⟩ := p
    rw [ea, Option.bind_some] at e
    cases eb : g ρ1 with
    | none => simp only [eb] at e; cases e
    | some p2 =>
      obtain ⟨os, ρ2⟩ := p2
      simp only [eb, Option.bind_some] at e
      cases e
      refine ⟨C, O, ρ, o1, ρ1, ek, F, ea, fun v H1 O1 F1 w r => ?_⟩
      have wh : Fh O σ ρ H O1 ρ1 H1 := ⟨w.kp, w.own, w.stay⟩
      -- a value: held
      have val : (∀ ds, o1 ≠ .nw ds) → OpW C O1 σ H1 v o1 → ∀ G, (∀ p, p ∈ G → Rep C.K H1 O1 p.1 p.2) → (∀ H2 O2, FR { C with G := G ++ C.G } O2 σ ρ' H2 → OpW C O2 σ H2 v o1) → tAp X.K g σ H1 fun xs H2 => Q (v :: xs) H2 := fun hne hw G hG hk => by
        refine ⟨{ C with G := G ++ C.G }, O1, ρ1, os, ρ', ek, F1.hold (fun p hp => (List.mem_append.mp hp).elim (hG p) (F1.held p)), eb, fun vs H2 O2 N F2 w2 p2 hn => ?_⟩
        refine q (v :: vs) H2 O2 N (F2.hold (G := C.G) fun p hp => F2.held p (List.mem_append_right _ hp)) (wh.trans w2) (.val (hk H2 O2 F2) hne p2.drop) fun a ha oa => ?_
        rcases w.stay a oa with z | z
        · exact w.own a (hn a ha z)
        · exact z
      cases o1 with
      | d x => exact val (fun _ h => nomatch h) r [(x, v)] (fun p hp => by rw [List.mem_singleton] at hp; rw [hp]; exact r) fun H2 O2 F2 => F2.held (x, v) (List.mem_append_left _ (by simp))
      | sl i => exact val (fun _ h => nomatch h) r.w [] (fun p hp => nomatch hp) fun H2 O2 F2 => r.2
      | nw ds =>
        obtain ⟨a, xs, rfl, h1, h0, no, G, rr⟩ := r
        obtain ⟨l, z⟩ := reps_zip.mp rr
        have nown : ¬ OwnA σ ρ1 a := fun z => no (F1.ownO z)
        refine ⟨{ C with G := ds.zip xs ++ C.G }, (fun b => b = a ∨ O1 b), ρ1, os, ρ', ek, G.hold (fun p hp => (List.mem_append.mp hp).elim (z p) (G.held p)), eb, fun vs H2 O2 N F2 w2 p2 hn => ?_⟩
        have wx : Fh O σ ρ H (fun b => b = a ∨ O1 b) ρ1 H1 := ⟨w.kp, w.own, fun b hb => (w.stay b hb).imp .inr id⟩
        refine q (.ref a :: vs) H2 O2 (a :: N) (F2.hold (G := C.G) fun p hp => F2.held p (List.mem_append_right _ hp)) (wx.trans w2) (.new ⟨⟨xs, w2.kp a _ h1 nown, reps_zip.mpr ⟨l, fun p hp => F2.held p (List.mem_append_left _ hp)⟩⟩, h0, ?_, fun z => nown (w2.own a z)⟩ ?_ p2.drop) fun b hb ob => ?_
        · exact (w2.stay a (.inl rfl)).elim id fun z => absurd z nown
        · exact fun z => nown (hn a z (.inl rfl))
        · rcases List.mem_cons.mp hb with rfl | hb
          · exact (w.stay b ob).elim (fun z => absurd z no) id
          · rcases w.stay b ob with z | z
            · exact w.own b (hn b hb (.inr z))
            · exact z
/-- stores, one behind another: (slot, its own list) -/
def stP : List (Nat × Bool) → List Opd → Ev → Option Ev
  | [], [], ρ => some ρ
  | (i, true) :: is, .nw ds :: os, ρ => stP is os (ρ.set i (.own ds))
  | (_, true) :: _, _, _ => none
  | (i, false) :: is, .d x :: os, ρ => stP is os (ρ.set i (.val x))
  | _, _, _ => none
def setsP : List (Nat × Bool) → List V → L2.St → L2.St
  | (i, _) :: is, v :: vs, σ => setsP is vs (σ.set i (some v))
  | _, _, σ => σ
theorem own_setv {i : Nat} {s : Sl} {v : V} {b : Addr} (hs : s.isOwn = false) (hl : ρ.length = σ.length) (h : OwnA (σ.set i (some v)) (ρ.set i s) b) : OwnA σ ρ b := by
  obtain ⟨j, t, a1, a2, a3⟩ := h
  by_cases hj : i = j
  · subst hj
    have hi : i < ρ.length := by
      have := (List.getElem?_eq_some_iff.mp a1).1
      simpa using this
    rw [List.getElem?_set_self hi] at a1
    cases a1; rw [hs] at a2; cases a2
  · rw [List.getElem?_set_ne hj] at a1 a3; exact ⟨j, t, a1, a2, a3⟩
theorem own_seto {i : Nat} {ds : List D} {a b : Addr} (hl : ρ.length = σ.length) (h : OwnA (σ.set i (some (.ref a))) (ρ.set i (.own ds)) b) : b = a ∨ OwnA σ ρ b := by
  obtain ⟨j, t, a1, a2, a3⟩ := h
  by_cases hj : i = j
  · subst hj
    have hi : i < σ.length := by
      have := (List.getElem?_eq_some_iff.mp a3).1
      simpa using this
    rw [List.getElem?_set_self hi] at a3
    cases a3; exact .inl rfl
  · rw [List.getElem?_set_ne hj] at a1 a3; exact .inr ⟨j, t, a1, a2, a3⟩
theorem OpPs.step {vs : List V} {os : List Opd} {N : List Addr} {σ' : L2.St} (p : OpPs C O σ ρ H vs os N) (hno : ∀ o ∈ os, notSl o = true) (h : ∀ b ∈ N, OwnA σ' ρ' b → OwnA σ ρ b) : OpPs C O σ' ρ' H vs os N := by
  induction p with
  | nil => exact .nil
  | val hw n _ ih =>
    rename_i v o vs os N _
    refine .val ?_ n (ih (fun o ho => hno o (List.mem_cons_of_mem _ ho)) h)
    cases o with
    | d x => exact hw
    | nw ds => exact hw
    | sl i => exact absurd (hno (.sl i) List.mem_cons_self) (by simp [notSl])
  | new hp n _ ih => exact .new ⟨hp.ex, hp.h0, hp.o, fun z => hp.no (h _ List.mem_cons_self z)⟩ n (ih (fun o ho => hno o (List.mem_cons_of_mem _ ho)) fun b hb => h b (List.mem_cons_of_mem _ hb))
theorem stP_no : ∀ {is : List (Nat × Bool)} {os : List Opd} {ρ ρ' : Ev}, stP is os ρ = some ρ' → ∀ o ∈ os, notSl o = true
  | [], [], _, _, _ => fun _ h => nomatch h
  | [], _ :: _, _, _, h => by simp [stP] at h
  | (i, true) :: is, [], _, _, h => by simp [stP] at h
  | (i, false) :: is, [], _, _, h => by simp [stP] at h
  | (i, true) :: is, .nw ds :: os, ρ, ρ', h => fun o ho => by
    rcases List.mem_cons.mp ho with rfl | ho
    · rfl
    · exact stP_no (is := is) h o ho
  | (i, true) :: is, .d _ :: os, ρ, ρ', h => by simp [stP] at h
  | (i, true) :: is, .sl _ :: os, ρ, ρ', h => by simp [stP] at h
  | (i, false) :: is, .nw _ :: os, _, _, h => by simp [stP] at h
  | (i, false) :: is, .d _ :: os, ρ, ρ', h => fun o ho => by
    rcases List.mem_cons.mp ho with rfl | ho
    · rfl
    · exact stP_no (is := is) h o ho
  | (i, false) :: is, .sl _ :: os, ρ, ρ', h => by simp [stP] at h
theorem stP_ok : ∀ {is : List (Nat × Bool)} {os : List Opd} {vs : List V} {N : List Addr} {σ : L2.St} {ρ ρ' : Ev}, FR C O σ ρ H → OpPs C O σ ρ H vs os N → stP is os ρ = some ρ' → FR C O (setsP is vs σ) ρ' H
  | [], [], vs, N, σ, ρ, ρ', F, p, e => by cases p; cases e; exact F
  | [], _ :: _, _, _, _, _, _, _, _, h => by simp [stP] at h
  | (i, true) :: is, [], _, _, _, _, _, _, _, h => by simp [stP] at h
  | (i, false) :: is, [], _, _, _, _, _, _, _, h => by simp [stP] at h
  | (i, true) :: is, .nw ds :: os, vs, N, σ, ρ, ρ', F, p, e => by
    have e : stP is os (ρ.set i (.own ds)) = some ρ' := e
    cases p with
    | val _ n _ => exact absurd rfl (n ds)
    | new hp n pr =>
      rename_i a vs N
      obtain ⟨xs, h1, rr⟩ := hp.ex
      refine stP_ok (is := is) (F.setown (i := i) h1 rr hp.o hp.h0 hp.no) (pr.step (stP_no e) fun b hb z => ?_) e
      rcases own_seto F.len z with z | z
      · exact absurd (z ▸ hb) n
      · exact z
  | (i, true) :: is, .d _ :: os, _, _, _, _, _, _, _, h => by simp [stP] at h
  | (i, true) :: is, .sl _ :: os, _, _, _, _, _, _, _, h => by simp [stP] at h
  | (i, false) :: is, .nw _ :: os, _, _, _, _, _, _, _, h => by simp [stP] at h
  | (i, false) :: is, .d x :: os, vs, N, σ, ρ, ρ', F, p, e => by
    have e : stP is os (ρ.set i (.val x)) = some ρ' := e
    cases p with
    | val hw n pr =>
      exact stP_ok (is := is) (F.setv (i := i) hw) (pr.step (stP_no e) fun b hb z => own_setv rfl F.len z) e
  | (i, false) :: is, .sl _ :: os, _, _, _, _, _, _, _, h => by simp [stP] at h

def sPar (is : List (Nat × Bool)) (fa : FA) : FS := fun ρ => (fa ρ).bind fun p => (stP is p.1 p.2).bind fun ρ' => some (.nx ρ')
theorem OpPs.len {vs : List V} {os : List Opd} {N : List Addr} (p : OpPs C O σ ρ H vs os N) : vs.length = os.length := by
  induction p with
  | nil => rfl
  | val _ _ _ ih => exact congrArg (· + 1) ih
  | new _ _ _ ih => exact congrArg (· + 1) ih
theorem stP_len : ∀ {is : List (Nat × Bool)} {os : List Opd} {ρ ρ' : Ev}, stP is os ρ = some ρ' → os.length = is.length
  | [], [], _, _, _ => rfl
  | [], _ :: _, _, _, h => by simp [stP] at h
  | (_, b) :: is, [], _, _, h => by cases b <;> simp [stP] at h
  | (i, b) :: is, o :: os, ρ, ρ', h => by
    cases b <;> cases o <;> first | (simp [stP] at h; done) | exact congrArg (· + 1) (stP_len (is := is) h)
theorem sPar_ok {is : List (Nat × Bool)} {fa : FA} {D : Ends} (h : tS K (sPar is fa) D σ H) : tAp K fa σ H fun vs H1 => vs.length = is.length ∧ D.nx (setsP is vs σ) H1 := by
  obtain ⟨C, O, ρ, o, ek, F, e, p⟩ := h
  unfold sPar at e
  cases ea : fa ρ with
  | none => rw [ea] at e; cases e
  | some q =>
    obtain ⟨os, ρ1⟩ := q
    rw [ea, Option.bind_some] at e
    cases eb : stP is os ρ1 with
    | none => simp [eb] at e
    | some ρ2 =>
      simp only [eb, Option.bind_some] at e
      cases e
      exact ⟨C, O, ρ, os, ρ1, ek, F, ea, fun vs H1 O1 N F1 w p1 hn => ⟨p1.len.trans (stP_len eb), p _ H1 O1 (stP_ok F1 p1 eb)⟩⟩
theorem tAp_mono {fa : FA} {Q Q' : List V → Hp → Prop} (h : tAp K fa σ H Q) (i : ∀ vs H, Q vs H → Q' vs H) : tAp K fa σ H Q' := by
  obtain ⟨C, O, ρ, os, ρ', ek, F, e, q⟩ := h
  exact ⟨C, O, ρ, os, ρ', ek, F, e, fun vs H' O' N F' w p hn => i _ _ (q vs H' O' N F' w p hn)⟩
theorem s_par {i j : Nat} {bi bj : Bool} {x y : Str} {a b : Expr} {fa : FA} {px py pt pos : Pos} {kt k2 pt2} (hc : X.calm = true) (hN : X.N.Nodup) (ha : PA X [a, b] (tAp X.K fa)) (hi : X.N[i]? = some x := by rfl) (hj : X.N[j]? = some y := by rfl) (hij : i ≠ j := by decide)
    (hx : X.env.scope.names.lookup x = some .local := by rfl) (hy : X.env.scope.names.lookup y = some .local := by rfl)
    (hw : swappedStores [.Tuple [.Name x px, .Name y py] kt pt] (.Tuple [a, b] k2 pt2) X.env = pure (some [x, y]) := by rfl)
    (hs : swapsWithSole [.Tuple [.Name x px, .Name y py] kt pt] (.Tuple [a, b] k2 pt2) pos.line X.env = pure false := by rfl) :
    PS X (.Assign [.Tuple [.Name x px, .Name y py] kt pt] (.Tuple [a, b] k2 pt2) pos) (tS X.K (sPar [(i, bi), (j, bj)] fa)) := (ps_par hc hN hi hj hij hx hy ha hw hs).imp fun D σ H h => tAp_mono (sPar_ok h) fun vs H1 ⟨l, q⟩ => match vs, l, q with
      | [v, w], _, q => ⟨v, w, rfl, q⟩
end
end Dv

set_option Elab.async false
set_option linter.all false
set_option maxRecDepth 100000
set_option maxHeartbeats 2000000
/-! lists that are changed, loops, comprehensions -/
namespace Dv
open PySem PySem.Spec PyProof.Rows L2
section
variable {X : Cx} {K : PySem.W.Frag} {C : Fc} {O O' : AP} {σ : L2.St} {ρ ρ' : Ev} {H H' : Hp} {e : Expr} {f : FE} {ft : FT} {g h : FS} {pos : Pos}
theorem ownD_ok {i : Nat} {ds : List D} (F : FR C O σ ρ H) (e : ownD ρ[i]? = some ds) : ∃ s a xs, ρ[i]? = some s ∧ s.isOwn = true ∧ σ[i]? = some (some (.ref a)) ∧ H a = some (.lst xs) ∧ Reps C.K H O ds xs ∧ O a := by
  cases q : ρ[i]? with
  | none => rw [q] at e; cases e
  | some s =>
    rw [q] at e
    have z := F.slot i _ q
    cases s with
    | un => cases e
    | val d => cases e
    | own es => cases e; obtain ⟨a, xs, e1, e2, r, o, _⟩ := z; exact ⟨_, a, xs, rfl, rfl, e1, e2, r, o⟩
    | bor es => cases e; obtain ⟨a, xs, e1, e2, r, o, _⟩ := z; exact ⟨_, a, xs, rfl, rfl, e1, e2, r, o⟩
theorem FR.put {i : Nat} {ds es : List D} {a : Addr} {ys : List V} (F : FR C O σ ρ H) (e : ownD ρ[i]? = some ds) (q : σ[i]? = some (some (.ref a))) (r : Reps C.K H O es ys) : FR C O σ (ρ.set i (putS ρ[i]? es)) (upd H a (.lst ys)) := by
  obtain ⟨s, b, xs, h1, h2, h3, h4, h5, h6⟩ := ownD_ok F e
  rw [q] at h3; cases h3
  have kp : Kep O H (upd H a (.lst ys)) := fun c u h n => by rw [upd_ne (fun z : c = a => n (by rw [z]; exact h6))]; exact h
  rw [h1]
  exact F.write h1 h2 q (r.keep kp F.mu fun _ h => h)
/-- x.append(e) -/
def apD (i : Nat) : D × Ev → Option Out := fun q => (ownD q.2[i]?).bind fun ds => if ds.length < 16777216 then some (.nx (q.2.set i (putS q.2[i]? (ds ++ [q.1])))) else none
def sApp (i : Nat) (f : FE) : FS := fun ρ => (ownD ρ[i]?).bind fun _ => (f ρ).bind fun p => (esc p.1 p.2).bind (apD i)
theorem s_app {i : Nat} {x : Str} {np ap cp : Pos} (he : PE X e (tF X.K f)) (hi : X.N[i]? = some x := by rfl) (hv : Vis X.env.scope x := by first | exact Or.inl rfl | exact Or.inr (Or.inl rfl) | exact Or.inr (Or.inr rfl)) (hd : (x == ("__debug__" : Str)) = false := by decide) (hcd : (x == ("__classdict__" : Str)) = false := by decide)
    (hst : starEach [e] X.env = (false, eval e X.env) :: starEach [] X.env := by rfl)
    (hbase : attributeBase (.Name x np) "append" X.env (eval (.Name x np) X.env) = eval (.Name x np) X.env := by rfl)
    (hfew : ((backTo cp (starEach [e] X.env)).all (fun x => !x.1) && (backToKw cp (keywordEach [] X.env)).all (fun x => x.1.isSome) && decide (([e] : List Expr).length + ([] : List Keyword).length + (if ([] : List Keyword).isEmpty then 0 else 1) < 30)) = true := by rfl)
    (hline : (ap.endLine == cp.line) = true := by rfl) (hplain : (backTo cp (starEach [] X.env)).any (·.1) = false := by rfl) (hsw : swapsWith (.Call (.Attribute (.Name x np) "append" ap) [e] [] cp) none pos.line X.env = pure false := by rfl) :
    PS X (.Expr (.Call (.Attribute (.Name x np) "append" ap) [e] [] cp) pos) (tS X.K (sApp i f)) :=
  (ps_expr (pe_bm PySem.F.plainAttrs_list PySem.F.slot_list_append PySem.F.type_list_append mt_append (pe_var hi hv hd hcd) (pa_cons he pa_nil hst) hbase hfew hline hst hplain) hsw).imp fun D σ H h => by
    obtain ⟨C, O, ρ, o, ek, F, e, p⟩ := h
    unfold sApp at e
    cases e0 : ownD ρ[i]? with
    | none => rw [e0] at e; cases e
    | some ds0 =>
      rw [e0, Option.bind_some] at e
      obtain ⟨s, a, xs, h1, h2, h3, h4, h5, h6⟩ := ownD_ok F e0
      cases ea : f ρ with
      | none => rw [ea] at e; cases e
      | some q =>
        obtain ⟨o1, ρ1⟩ := q
        rw [ea, Option.bind_some] at e
        cases ee : esc o1 ρ1 with
        | none => rw [ee] at e; cases e
        | some q =>
          obtain ⟨d, ρ2⟩ := q
          rw [ee, Option.bind_some] at e
          unfold apD at e
          simp only at e
          cases eo : ownD ρ2[i]? with
          | none => rw [eo] at e; cases e
          | some ds =>
            rw [eo, Option.bind_some] at e
            obtain ⟨hl, ez⟩ := some_if e
            cases ez
            refine ⟨.ref a, h3, .inl ⟨rfl, xs, .inl (.inl h4)⟩, C, O, ρ, o1, ρ1, ek, F, ea, fun v H1 O1 F1 w r => ?_⟩
            obtain ⟨O2, F2, w2, r2⟩ := esc_ok r.w F1 ee
            obtain ⟨s2, b, ys, k1, k2, k3, k4, k5, k6⟩ := ownD_ok F2 eo
            rw [h3] at k3; cases k3
            exact ⟨a, ys, v, rfl, rfl, k4, by rw [sizeLine_eq, ← k5.len]; exact hl, p σ _ O2 (F2.put eo h3 (k5.append (.cons r2 .nil)))⟩
/-- x[k] = e -/
def stI (i : Nat) (d : D) : Option Int × Ev → Option Out
  | (some k, ρ) => (ownD ρ[i]?).bind fun ds => (ixN ds.length k).bind fun j => some (.nx (ρ.set i (putS ρ[i]? (ds.set j d))))
  | _ => none
def sStI (i : Nat) (fi : FP) (f : FE) : FS := fun ρ => (f ρ).bind fun p => (esc p.1 p.2).bind fun q => (ownD q.2[i]?).bind fun _ => (fi q.2).bind (stI i q.1)
theorem s_sti {i : Nat} {x : Str} {np sp : Pos} {k : Expr} {fk : FE} (he : PE X e (tF X.K f)) (hk : PE X k (tF X.K fk)) (hi : X.N[i]? = some x := by rfl) (hv : Vis X.env.scope x := by first | exact Or.inl rfl | exact Or.inr (Or.inl rfl) | exact Or.inr (Or.inr rfl)) (hd : (x == ("__debug__" : Str)) = false := by decide) (hcd : (x == ("__classdict__" : Str)) = false := by decide)
    (ha : ∀ v, assign (.Subscript (.Name x np) k sp) X.env v = (do
      let ov ← holding [v] (eval (.Name x np) X.env)
      let iv ← holding [v, ov] (eval k X.env)
      standAt sp
      holding [v, ov, iv] (setItem ov iv v)
      release [v, ov, iv] []) := by intro _; rfl)
    (hs : swapsWithSole [.Subscript (.Name x np) k sp] e pos.line X.env = pure false := by rfl) (hw : swappedStores [.Subscript (.Name x np) k sp] e X.env = pure none := by rfl)
    (h1 : (assignEach [.Subscript (.Name x np) k sp] X.env).map (·.2) = [assign (.Subscript (.Name x np) k sp) X.env] := by rfl) :
    PS X (.Assign [.Subscript (.Name x np) k sp] e pos) (tS X.K (sStI i (pInt fk) f)) := (ps_asg he (pg_sub (pe_var hi hv hd hcd) hk set_list ha) hs hw h1).imp fun D σ H h => by
    obtain ⟨C, O, ρ, o, ek, F, e, p⟩ := h
    unfold sStI at e
    cases ea : f ρ with
    | none => rw [ea] at e; cases e
    | some q =>
      obtain ⟨o1, ρ1⟩ := q
      rw [ea, Option.bind_some] at e
      cases ee : esc o1 ρ1 with
      | none => simp [ee] at e
      | some q =>
        obtain ⟨d, ρ2⟩ := q
        simp only [ee, Option.bind_some] at e
        cases e0 : ownD ρ2[i]? with
        | none => simp [e0] at e
        | some ds0 =>
          simp only [e0, Option.bind_some] at e
          cases ep : pInt fk ρ2 with
          | none => simp [ep] at e
          | some q =>
            obtain ⟨ko, ρ3⟩ := q
            simp only [ep, Option.bind_some] at e
            cases ko with
            | none => cases e
            | some kk =>
              unfold stI at e
              simp only at e
              cases eo : ownD ρ3[i]? with
              | none => simp [eo] at e
              | some ds =>
                simp only [eo, Option.bind_some] at e
                cases ej : ixN ds.length kk with
                | none => simp [ej] at e
                | some j =>
                  simp only [ej, Option.bind_some] at e
                  cases e
                  refine ⟨C, O, ρ, o1, ρ1, ek, F, ea, fun v H1 O1 F1 w r => ?_⟩
                  obtain ⟨O2, F2, w2, r2⟩ := esc_ok r.w F1 ee
                  obtain ⟨s, a, xs, h1, h2, h3, h4, h5, h6⟩ := ownD_ok F2 e0
                  refine ⟨.ref a, h3, ?_⟩
                  -- the index
                  unfold pInt at ep
                  cases ef : fk ρ2 with
                  | none => rw [ef] at ep; cases ep
                  | some q =>
                    obtain ⟨o2, ρ4⟩ := q
                    rw [ef, Option.bind_some] at ep
                    unfold asI at ep
                    split at ep
                    · cases ep
                      rename_i ki ρ5 hq
                      cases hq
                      refine ⟨C, O2, ρ2, _, _, ek, F2, ef, fun u H3 O3 F3 w3 r3 => ?_⟩
                      obtain ⟨s2, b, ys, k1, k2, k3, k4, k5, k6⟩ := ownD_ok F3 eo
                      rw [h3] at k3; cases k3
                      exact ⟨a, ys, kk, j, rfl, rp_int (K := C.K) (H := H3) (O := O3) r3, k4, by rw [← k5.len]; exact ej, p σ _ O3 (F3.put eo h3 (k5.set j (w3.rep F2 r2)))⟩
                    · cases ep
/-- x += e, ints -/
def agI (i : Nat) (op : Int → Int → Int) (x : D) : Option Int × Ev → Option Out
  | (some j, ρ) => match x with
    | .int a => some (.nx (ρ.set i (.val (.int (op a j)))))
    | _ => none
  | _ => none
def valD : Option Sl → Option D
  | some (.val d) => some d
  | _ => none
def sAug (i : Nat) (op : Int → Int → Int) (f : FE) : FS := fun ρ => (valD ρ[i]?).bind fun x => (pInt f ρ).bind (agI i op x)
/-! ### what is walked -/
structure Wk (K : PySem.W.Frag) (J : It) (ds : List D) (hd : List (D × V)) : Prop where
  go : ∀ i H O, i < ds.length → (∀ p ∈ hd, Rep K H O p.1 p.2) → J.go i H
  stop : ∀ H O, (∀ p ∈ hd, Rep K H O p.1 p.2) → J.stop ds.length H
  yld : ∀ i H O x H', i < ds.length → OL O H → (∀ p ∈ hd, Rep K H O p.1 p.2) → J.yld i H x H' → (H' = H ∨ ∃ p o, H p = none ∧ H' = upd H p o) ∧ ∃ d, ds[i]? = some d ∧ Rep K H' O d x
theorem one_of {K : PySem.W.Frag} {H : Hp} {O : AP} {x : D} {v : V} (r : Rep K H O x v) : ∀ p ∈ [(x, v)], Rep K H O p.1 p.2 := fun p h => by rw [List.mem_singleton.mp h]; exact r
abbrev FI := Ev → Option (List D × Ev)
def tI (K : PySem.W.Frag) (f : FI) : TI := fun σ H R => ∃ C O ρ ds ρ', C.K = K ∧ FR C O σ ρ H ∧ f ρ = some (ds, ρ') ∧ ∀ J hd H' O', FR C O' σ ρ' H' → Fw O σ ρ H O' ρ' H' → (∀ p ∈ hd, Rep K H' O' p.1 p.2) → Wk K J ds hd → R J H'
def iSeq (f : FE) : FI := fun ρ => (f ρ).bind fun p => (esc p.1 p.2).bind fun q => (items q.1).bind fun ds => some (ds, q.2)
theorem pi_or {tg : Expr} {t1 t2 : TI} (h1 : PI X tg e t1) (h2 : PI X tg e t2) : PI X tg e (fun σ H R => t1 σ H R ∨ t2 σ H R) := ⟨fun pins s σ H R I q => q.elim (h1.run pins s σ H R I) (h2.run pins s σ H R I)⟩
theorem wk_list {a : Addr} {x : D} {ds : List D} (e : items x = some ds) (h : ∀ H O, Rep K H O x (.ref a) → ∃ xs, SqL K H a xs ∧ Reps K H O ds xs) : Wk K (Itl K a) ds [(x, .ref a)] where
  go := fun i H O hi r => by
    replace r := r _ List.mem_cons_self
    obtain ⟨xs, h1, h2⟩ := h H O r
    obtain ⟨v, hv, _⟩ := h2.get (List.getElem?_eq_getElem hi)
    exact ⟨xs, v, h1, hv⟩
  stop := fun H O r => by
    replace r := r _ List.mem_cons_self
    obtain ⟨xs, h1, h2⟩ := h H O r
    exact ⟨xs, h1, by rw [h2.len]; exact Nat.le_refl _⟩
  yld := fun i H O v H' hi _ r y => by
    replace r := r _ List.mem_cons_self
    obtain ⟨xs, h1, h2⟩ := h H O r
    obtain ⟨e1, y⟩ := y
    subst e1
    refine ⟨.inl rfl, _, List.getElem?_eq_getElem hi, ?_⟩
    obtain ⟨u, hu, ru⟩ := h2.get (List.getElem?_eq_getElem hi)
    have := y xs h1
    rw [hu] at this; cases this
    exact ru
theorem wk_tup {a : Addr} {x : D} {ds : List D} (e : items x = some ds) (h : ∀ H O, Rep K H O x (.ref a) → ∃ xs, SqT K H a xs ∧ Reps K H O ds xs) : Wk K (Itt K a) ds [(x, .ref a)] where
  go := fun i H O hi r => by
    replace r := r _ List.mem_cons_self
    obtain ⟨xs, h1, h2⟩ := h H O r
    obtain ⟨v, hv, _⟩ := h2.get (List.getElem?_eq_getElem hi)
    exact ⟨xs, v, h1, hv⟩
  stop := fun H O r => by
    replace r := r _ List.mem_cons_self
    obtain ⟨xs, h1, h2⟩ := h H O r
    exact ⟨xs, h1, by rw [h2.len]; exact Nat.le_refl _⟩
  yld := fun i H O v H' hi _ r y => by
    replace r := r _ List.mem_cons_self
    obtain ⟨xs, h1, h2⟩ := h H O r
    obtain ⟨e1, y⟩ := y
    subst e1
    refine ⟨.inl rfl, _, List.getElem?_eq_getElem hi, ?_⟩
    obtain ⟨u, hu, ru⟩ := h2.get (List.getElem?_eq_getElem hi)
    have := y xs h1
    rw [hu] at this; cases this
    exact ru
theorem i_seq {tg : Expr} (he : PE X e (tF X.K f)) : PI X tg e (tI X.K (iSeq f)) := (pi_or (pi_list he) (pi_tup he)).imp fun σ H R h => by
  obtain ⟨C, O, ρ, ds, ρ', ek, F, e, q⟩ := h
  unfold iSeq at e
  cases ea : f ρ with
  | none => rw [ea] at e; cases e
  | some p =>
    obtain ⟨o1, ρ1⟩ := p
    rw [ea, Option.bind_some] at e
    cases ee : esc o1 ρ1 with
    | none => simp [ee] at e
    | some p2 =>
      obtain ⟨x, ρ2⟩ := p2
      simp only [ee, Option.bind_some] at e
      cases ei : items x with
      | none => simp [ei] at e
      | some es =>
        simp only [ei, Option.bind_some] at e
        cases e
        have key : ∀ v H1 O1, FR C O1 σ ρ1 H1 → Fw O σ ρ H O1 ρ1 H1 → OpR C O1 σ ρ1 H1 v o1 → ∃ O2, FR C O2 σ ρ' H1 ∧ Fw O σ ρ H O2 ρ' H1 ∧ Rep X.K H1 O2 x v := fun v H1 O1 F1 w r => by
          obtain ⟨O2, F2, w2, r2⟩ := esc_ok r.w F1 ee
          exact ⟨O2, F2, w.trans w2, by rw [← ek]; exact r2⟩
        cases x with
        | lst xs =>
          cases ei
          refine .inl ⟨C, O, ρ, o1, ρ1, ek, F, ea, fun v H1 O1 F1 w r => ?_⟩
          obtain ⟨O2, F2, w2, r2⟩ := key v H1 O1 F1 w r
          have z := r2
          rw [Rep] at z
          obtain ⟨a, vs, rfl, h1, h2, h3⟩ := z
          refine ⟨a, rfl, ⟨vs, .inl (.inl h1)⟩, q _ [(.lst ds, .ref a)] H1 O2 F2 w2 (one_of r2) (wk_list rfl fun H O r => ?_)⟩
          rw [Rep] at r
          obtain ⟨b, ys, eb, k1, _, k3⟩ := r
          cases eb
          exact ⟨ys, .inl (.inl k1), k3⟩
        | frl xs =>
          cases ei
          refine .inl ⟨C, O, ρ, o1, ρ1, ek, F, ea, fun v H1 O1 F1 w r => ?_⟩
          obtain ⟨O2, F2, w2, r2⟩ := key v H1 O1 F1 w r
          have z := r2
          rw [Rep] at z
          obtain ⟨a, vs, rfl, h1, h3⟩ := z
          refine ⟨a, rfl, ⟨vs, h1.sq⟩, q _ [(.frl ds, .ref a)] H1 O2 F2 w2 (one_of r2) (wk_list rfl fun H O r => ?_)⟩
          rw [Rep] at r
          obtain ⟨b, ys, eb, k1, k3⟩ := r
          cases eb
          exact ⟨ys, k1.sq, k3⟩
        | tup xs =>
          cases ei
          refine .inr ⟨C, O, ρ, o1, ρ1, ek, F, ea, fun v H1 O1 F1 w r => ?_⟩
          obtain ⟨O2, F2, w2, r2⟩ := key v H1 O1 F1 w r
          have z := r2
          rw [Rep] at z
          obtain ⟨a, vs, rfl, h1, h3⟩ := z
          refine ⟨a, rfl, ⟨vs, h1⟩, q _ [(.tup ds, .ref a)] H1 O2 F2 w2 (one_of r2) (wk_tup rfl fun H O r => ?_)⟩
          rw [Rep] at r
          obtain ⟨b, ys, eb, k1, k3⟩ := r
          cases eb
          exact ⟨ys, k1, k3⟩
        | _ => cases ei
/-- range -/
def rgD (lo : Int) (n : Nat) : List D := (List.range n).map fun i => .int (lo + (i : Nat))
theorem wk_range {lo : Int} {n : Nat} : Wk K (Itr lo n) (rgD lo n) [] where
  go := fun i H O hi _ => (by simpa [rgD] using hi : i < n)
  stop := fun H O _ => by simp [rgD, Itr]
  yld := fun i H O x H' hi _ _ y => by
    obtain ⟨e1, e2⟩ := y
    subst e1
    have hi' : i < n := by simpa [rgD] using hi
    refine ⟨.inl rfl, .int (lo + (i : Nat)), ?_, ?_⟩
    · unfold rgD; rw [List.getElem?_map, List.getElem?_range hi']; rfl
    · rw [Rep]; exact e2
def iRg1 (f : FP) : FI := fun ρ => (f ρ).bind fun p => p.1.bind fun j => if -(2 ^ 62) ≤ j ∧ j < 2 ^ 62 then some (rgD 0 j.toNat, p.2) else none
def iRg2 (f g : FP) : FI := fun ρ => (f ρ).bind fun p => (g p.2).bind fun q => p.1.bind fun i => q.1.bind fun j => if -(2 ^ 62) ≤ i ∧ i < 2 ^ 62 ∧ -(2 ^ 62) ≤ j ∧ j < 2 ^ 62 then some (rgD i (j - i).toNat, q.2) else none
theorem tPInt {Q : Option Int → Hp → Prop} (h : tP K (pInt f) σ H Q) : tF K f σ H fun v H1 => ∃ i, v = .int i ∧ Q (some i) H1 := by
  obtain ⟨C, O, ρ, i, ρ', ek, F, e, q⟩ := h
  unfold pInt at e
  cases ea : f ρ with
  | none => rw [ea] at e; cases e
  | some p =>
    rw [ea, Option.bind_some] at e
    unfold asI at e
    split at e
    · rename_i j ρ2
      cases e
      exact ⟨C, O, ρ, _, _, ek, F, ea, fun v H1 O1 F1 w r => ⟨j, rp_int (K := C.K) (H := H1) (O := O1) r, q H1 O1 F1 w⟩⟩
    · cases e
theorem i_rg1 {tg a : Expr} {p : Pos} (hm : X.mg "range" = none) (ha : PE X a (tF X.K f)) (hg : Gl X "range" := by rfl) (hs : starEach [a] X.env = [(false, eval a X.env)] := by rfl) : PI X tg (.Call (.Name "range" p) [a] [] pos) (tI X.K (iRg1 (pInt f))) :=
  (pi_range1 hg hm (pa_cons ha pa_nil hs) hs).imp fun σ H R h => by
    obtain ⟨C, O, ρ, ds, ρ', ek, F, e, q⟩ := h
    unfold iRg1 at e
    cases ea : pInt f ρ with
    | none => rw [ea] at e; cases e
    | some p =>
      obtain ⟨jo, ρ1⟩ := p
      rw [ea, Option.bind_some] at e
      cases jo with
      | none => cases e
      | some j =>
        simp only [Option.bind_some] at e
        obtain ⟨hl, ez⟩ := some_if e
        cases ez
        obtain ⟨C2, O2, ρ2, o2, ρ3, ek2, F2, ef, q2⟩ := tPInt (K := X.K) (Q := fun io H1 => ∀ j, io = some j → ∃ O1, FR C O1 σ ρ' H1 ∧ Fw O σ ρ H O1 ρ' H1 ∧ j = j) ⟨C, O, ρ, some j, ρ', ek, F, ea, fun H1 O1 F1 w => fun k hk => ⟨O1, F1, w, rfl⟩⟩
        unfold pInt at ea
        cases ef2 : f ρ with
        | none => rw [ef2] at ea; cases ea
        | some p3 =>
          rw [ef2, Option.bind_some] at ea
          unfold asI at ea
          split at ea
          · cases ea
            refine ⟨C, O, ρ, _, _, ek, F, ef2, fun v H1 O1 F1 w r => ?_⟩
            refine ⟨j, by rw [rp_int (K := C.K) (H := H1) (O := O1) r], hl.1, hl.2, q _ [] H1 O1 F1 w (fun _ h => nomatch h) wk_range⟩
          · cases ea
theorem i_rg2 {tg a b : Expr} {fb : FE} {p : Pos} (hm : X.mg "range" = none) (ha : PE X a (tF X.K f)) (hb : PE X b (tF X.K fb)) (hg : Gl X "range" := by rfl) (hs : starEach [a, b] X.env = [(false, eval a X.env), (false, eval b X.env)] := by rfl) (hs2 : starEach [b] X.env = [(false, eval b X.env)] := by rfl) :
    PI X tg (.Call (.Name "range" p) [a, b] [] pos) (tI X.K (iRg2 (pInt f) (pInt fb))) :=
  (pi_range2 hg hm (pa_cons ha (pa_cons hb pa_nil hs2) (by rw [hs, hs2])) hs hs2).imp fun σ H R h => by
    obtain ⟨C, O, ρ, ds, ρ', ek, F, e, q⟩ := h
    unfold iRg2 pInt at e
    cases ea : f ρ with
    | none => simp [ea] at e
    | some p =>
      obtain ⟨o1, ρ1⟩ := p
      simp only [ea, Option.bind_some] at e
      cases e1 : asI (o1, ρ1) with
      | none => simp [e1] at e
      | some z =>
        obtain ⟨io, ρ1'⟩ := z
        simp only [e1, Option.bind_some] at e
        unfold asI at e1
        split at e1
        · cases e1
          rename_i ii ρ9 hq
          cases hq
          cases eb : fb ρ1 with
          | none => simp [eb] at e
          | some p2 =>
            obtain ⟨o2, ρ2⟩ := p2
            simp only [eb, Option.bind_some] at e
            cases e2 : asI (o2, ρ2) with
            | none => simp [e2] at e
            | some z2 =>
              obtain ⟨jo, ρ2'⟩ := z2
              simp only [e2, Option.bind_some] at e
              unfold asI at e2
              split at e2
              · cases e2
                rename_i jj ρ8 hq2
                cases hq2
                simp only [Option.bind_some] at e
                obtain ⟨hl, ez⟩ := some_if e
                cases ez
                refine ⟨C, O, ρ, _, _, ek, F, ea, fun v H1 O1 F1 w1 r1 => ⟨C, O1, _, _, _, ek, F1, eb, fun u H2 O2 F2 w2 r2 => ?_⟩⟩
                refine ⟨ρ9, ρ8, by rw [rp_int (K := C.K) (H := H1) (O := O1) r1, rp_int (K := C.K) (H := H2) (O := O2) r2], hl, q _ [] H2 O2 F2 (w1.trans w2) (fun _ h => nomatch h) wk_range⟩
              · cases e2
        · cases e1

/-! ### for, while -/
def loopD (t : Tg) (g : FS) : List D → Ev → Option Out
  | [], ρ => some (.nx ρ)
  | d :: ds, ρ => (bindT t d ρ).bind fun ρ1 => (g ρ1).bind fun o => match o with
    | .nx ρ2 => loopD t g ds ρ2
    | .ct ρ2 => loopD t g ds ρ2
    | .bk ρ2 => some (.nx ρ2)
    | .rt o ρ2 => some (.rt o ρ2)
def sFor (fi : FI) (t : Tg) (g : FS) : FS := fun ρ => (fi ρ).bind fun p => loopD t g p.1 p.2
theorem s_for {tg iter : Expr} {body : List Stmt} {fi : FI} {t : Tg} (hc : X.calm = true) (hi : PI X tg iter (tI X.K fi)) (hg : PG X tg (tG X.K t)) (hb : PSs X body (tS X.K g)) (hp : PassesOwn (model X.prog X.w) X.A X.env X.xe := by exact PassesOwn.never)
    (hs : ∀ x, foldedSetIterable iter X.env x = pure x := by intro _; rfl) : PS X (.For tg iter body [] pos) (tS X.K (sFor fi t g)) := (ps_for hp hc hi hg hb hs).imp fun D σ H h => by
  obtain ⟨C, O, ρ, out, ek, F, e, p⟩ := h
  unfold sFor at e
  cases ei : fi ρ with
  | none => rw [ei] at e; cases e
  | some q =>
    obtain ⟨ds, ρ1⟩ := q
    rw [ei, Option.bind_some] at e
    refine ⟨C, O, ρ, ds, ρ1, ek, F, ei, fun J hd H1 O1 F1 w rh wk => ?_⟩
    have ld : ∀ {O2 σ2 ρ2 H2}, FR { C with G := hd ++ C.G } O2 σ2 ρ2 H2 → FR C O2 σ2 ρ2 H2 := fun F => F.hold (G := C.G) fun p hp => F.held p (List.mem_append_right _ hp)
    refine ⟨fun i m σ2 H2 => m = ds.length - i ∧ i ≤ ds.length ∧ ∃ O2 ρ2, FR { C with G := hd ++ C.G } O2 σ2 ρ2 H2 ∧ loopD t g (ds.drop i) ρ2 = some out, ⟨_, rfl, Nat.zero_le _, O1, ρ1, F1.hold (fun p hp => (List.mem_append.mp hp).elim (fun z => by rw [ek]; exact rh p z) (F1.held p)), e⟩, ?_⟩
    rintro i m σ2 H2 ⟨rfl, hi2, O2, ρ2, F2, e2⟩
    have rh2 : ∀ p ∈ hd, Rep X.K H2 O2 p.1 p.2 := fun p hp => by rw [← ek]; exact F2.held p (List.mem_append_left _ hp)
    by_cases hlt : i < ds.length
    · refine .inr ⟨wk.go i H2 O2 hlt rh2, fun σ3 H3 => i + 1 ≤ ds.length ∧ ∃ O3 ρ3, FR { C with G := hd ++ C.G } O3 σ3 ρ3 H3 ∧ loopD t g (ds.drop (i + 1)) ρ3 = some out, fun σ3 H3 ⟨h1, h2⟩ => ⟨ds.length - (i + 1), by omega, rfl, h1, h2⟩, fun x H3 y => ?_⟩
      obtain ⟨hH, d, hdd, rd⟩ := wk.yld i H2 O2 x H3 hlt F2.mu rh2 y
      have F3 : FR { C with G := hd ++ C.G } O2 σ2 ρ2 H3 := by
        rcases hH with rfl | ⟨p, o, hp, rfl⟩
        · exact F2
        · exact F2.laid hp
      have hdrop : ds.drop i = d :: ds.drop (i + 1) := by
        rw [List.drop_eq_getElem_cons hlt]
        congr 1
        rw [List.getElem?_eq_getElem hlt] at hdd
        exact Option.some.inj hdd
      rw [hdrop] at e2
      unfold loopD at e2
      cases eb : bindT t d ρ2 with
      | none => rw [eb] at e2; cases e2
      | some ρ3 =>
        rw [eb, Option.bind_some] at e2
        cases eg : g ρ3 with
        | none => rw [eg] at e2; cases e2
        | some o =>
          rw [eg, Option.bind_some] at e2
          refine ⟨{ C with G := hd ++ C.G }, O2, ρ2, d, ρ3, ek, F3, rd, eb, fun σ4 F4 _ => ⟨{ C with G := hd ++ C.G }, O2, ρ3, o, ek, F4, eg, ?_⟩⟩
          cases o with
          | nx ρ5 => exact fun σ5 H5 O5 F5 => ⟨hlt, O5, ρ5, F5, e2⟩
          | ct ρ5 => exact fun σ5 H5 O5 F5 => ⟨hlt, O5, ρ5, F5, e2⟩
          | bk ρ5 =>
            cases e2
            exact fun σ5 H5 O5 F5 => p σ5 H5 O5 (ld F5)
          | rt o5 ρ5 =>
            cases e2
            refine fun v σ5 H5 O5 F5 r5 => p v σ5 H5 O5 (ld F5) ?_
            cases o5 with
            | d x => exact r5
            | sl i => exact r5
            | nw es =>
              obtain ⟨a, xs, e1, e2, e3, e4, G5, e6⟩ := r5
              exact ⟨a, xs, e1, e2, e3, e4, ld G5, e6⟩
    · have : i = ds.length := by omega
      subst this
      rw [List.drop_length] at e2
      cases e2
      exact .inl ⟨wk.stop H2 O2 rh2, p σ2 H2 O2 (ld F2)⟩
def whileD (ft : FT) (g : FS) : Nat → Ev → Option Out
  | 0, _ => none
  | n + 1, ρ => (ft ρ).bind fun p => if p.1 then (g p.2).bind fun o => match o with
      | .nx ρ2 => whileD ft g n ρ2
      | .ct ρ2 => whileD ft g n ρ2
      | .bk ρ2 => some (.nx ρ2)
      | .rt o ρ2 => some (.rt o ρ2)
    else some (.nx p.2)
/-- at most so many turns as the slots tell -/
def sWhile (n : Ev → Nat) (ft : FT) (g : FS) : FS := fun ρ => whileD ft g (n ρ) ρ
end
end Dv

set_option Elab.async false
set_option linter.all false
set_option maxRecDepth 100000
set_option maxHeartbeats 2000000
/-! built-ins, keywords, comprehensions -/
namespace Dv
open PySem PySem.Spec PyProof.Rows L2

/-! ### built-ins of one argument, of two -/
def fB1 (g : D → Option Opd) (f : FE) : FE := fun ρ => (f ρ).bind fun p => (der p.2 p.1).bind fun x => (g x).bind fun z => some (z, p.2)
def rC1 (K : PySem.W.Frag) (g : D → Option Opd) : List V → Hp → VK → Prop := fun us H Q => ∃ u C O σ ρ x z, us = [u] ∧ C.K = K ∧ FR C O σ ρ H ∧ Vw K H O x u ∧ g x = some z ∧ ∀ w H' O', FR C O' σ ρ H' → Fw O σ ρ H O' ρ H' → OpR C O' σ ρ H' w z → Q w H'
def rC2 (K : PySem.W.Frag) (g : D → D → Option Opd) : List V → Hp → VK → Prop := fun us H Q => ∃ u v C O σ ρ x y z, us = [u, v] ∧ C.K = K ∧ FR C O σ ρ H ∧ Vw K H O x u ∧ Vw K H O y v ∧ g x y = some z ∧ ∀ w H' O', FR C O' σ ρ H' → Fw O σ ρ H O' ρ H' → OpR C O' σ ρ H' w z → Q w H'
section
variable {X : Cx} {K : PySem.W.Frag} {C : Fc} {O O' : AP} {σ : L2.St} {ρ ρ' : Ev} {H H' : Hp} {e a b : Expr} {f fa fb : FE} {pos p : Pos} {x : Str} {id T : String}
theorem tC1 {g : D → Option Opd} {Q : VK} (h : tF K (fB1 g f) σ H Q) : tCB (rC1 K g) (tCons (tF K f) tNil) σ H Q := by
  obtain ⟨C, O, ρ, o, ρ', ek, F, e, q⟩ := h
  unfold fB1 at e
  cases ea : f ρ with
  | none => rw [ea] at e; cases e
  | some p =>
    obtain ⟨o1, ρ1⟩ := p
    rw [ea, Option.bind_some] at e
    cases ex : der ρ1 o1 with
    | none => simp [ex] at e
    | some x =>
      simp only [ex, Option.bind_some] at e
      cases ez : g x with
      | none => simp [ez] at e
      | some z =>
        simp only [ez, Option.bind_some] at e
        cases e
        exact ⟨C, O, ρ, o1, _, ek, F, ea, fun u H1 O1 F1 w1 r1 => ⟨u, C, O1, σ, _, x, _, rfl, ek, F1, by rw [← ek]; exact r1.w.vw F1 ex, ez, fun w H2 O2 F2 w2 r2 => q w H2 O2 F2 (w1.trans w2) r2⟩⟩
theorem tC2 {g : D → D → Option Opd} {Q : VK} (h : tF K (fBin g fa fb) σ H Q) : tCB (rC2 K g) (tCons (tF K fa) (tCons (tF K fb) tNil)) σ H Q := by
  obtain ⟨C, O, ρ, o, ρ', ek, F, e, q⟩ := tBin h
  exact ⟨C, O, ρ, o, ρ', ek, F, e, fun u H1 O1 F1 w1 r1 => by
    obtain ⟨C2, O2, ρ2, o2, ρ3, ek2, F2, e2, q2⟩ := q u H1 O1 F1 w1 r1
    exact ⟨C2, O2, ρ2, o2, ρ3, ek2, F2, e2, fun v H2 O3 F3 w3 r3 => by
      obtain ⟨C4, O4, σ4, ρ4, x, y, z, ek4, F4, vx, vy, ez, q4⟩ := q2 v H2 O3 F3 w3 r3
      exact ⟨u, v, C4, O4, σ4, ρ4, x, y, z, rfl, ek4, F4, vx, vy, ez, q4⟩⟩⟩
theorem d_b1 {g : D → Option Opd} (hc : CallR X (.builtin id) (rC1 X.K g)) (hm : X.mg x = none) (hv : bootBuiltins x = some (.builtin id)) (ha : PE X e (tF X.K f)) (hg : Gl X x := by rfl) (hn : x ≠ "__name__" := by decide) (hdb : (x == ("__debug__" : Str)) = false := by decide)
    (he : starEach [e] X.env = (false, eval e X.env) :: starEach [] X.env := by rfl) (hpl : (backTo pos (starEach [] X.env)).any (·.1) = false := by rfl) : PE X (.Call (.Name x p) [e] [] pos) (tF X.K (fB1 g f)) :=
  (pe_callB hc hg hm hv (pa_cons ha pa_nil he) hn hdb he hpl).imp fun σ H Q h => tC1 h
theorem d_t1 {g : D → Option Opd} (hc : CallR X (.type T) (rC1 X.K g)) (hm : X.mg x = none) (hv : bootBuiltins x = some (.type T)) (ha : PE X e (tF X.K f)) (hg : Gl X x := by rfl) (hn : x ≠ "__name__" := by decide) (hdb : (x == ("__debug__" : Str)) = false := by decide)
    (he : starEach [e] X.env = (false, eval e X.env) :: starEach [] X.env := by rfl) (hpl : (backTo pos (starEach [] X.env)).any (·.1) = false := by rfl) : PE X (.Call (.Name x p) [e] [] pos) (tF X.K (fB1 g f)) :=
  (pe_callTy hc hg hm hv (pa_cons ha pa_nil he) hn hdb he hpl).imp fun σ H Q h => tC1 h
theorem d_b2 {g : D → D → Option Opd} (hc : CallR X (.builtin id) (rC2 X.K g)) (hm : X.mg x = none) (hv : bootBuiltins x = some (.builtin id)) (ha : PE X a (tF X.K fa)) (hb : PE X b (tF X.K fb)) (hg : Gl X x := by rfl) (hn : x ≠ "__name__" := by decide) (hdb : (x == ("__debug__" : Str)) = false := by decide)
    (he : starEach [a, b] X.env = (false, eval a X.env) :: starEach [b] X.env := by rfl) (he2 : starEach [b] X.env = (false, eval b X.env) :: starEach [] X.env := by rfl) (hpl : (backTo pos (starEach [b] X.env)).any (·.1) = false := by rfl) : PE X (.Call (.Name x p) [a, b] [] pos) (tF X.K (fBin g fa fb)) :=
  (pe_callB hc hg hm hv (pa_cons ha (pa_cons hb pa_nil he2) he) hn hdb he hpl).imp fun σ H Q h => tC2 h
def gLen : D → Option Opd
  | .str z => if z.length ≤ 16777216 then some (.d (.int z.length)) else none
  | x => (items x).bind fun ds => some (.d (.int ds.length))
theorem c_len : CallR X (.builtin "len") (rC1 X.K gLen) := by
  intro pins s σ' H us vs Q I r h
  obtain ⟨u, C, O, σ, ρ, x, z, rfl, ek, F, vx, ez, q⟩ := h
  unfold gLen at ez
  split at ez
  · obtain ⟨hl, e⟩ := some_if ez
    cases e
    exact call_len pins s σ' H [u] vs Q I r ⟨u, _, rfl, by rw [vw_str vx]; exact ⟨by rw [sizeLine_eq]; exact hl, rfl⟩, q _ H O F .refl or_int⟩
  · cases ei : items x with
    | none => rw [ei] at ez; cases ez
    | some ds =>
      rw [ei, Option.bind_some] at ez
      cases ez
      obtain ⟨a, xs, rfl, h1, r1⟩ := vw_items vx ei
      exact call_len_seq pins s σ' H [.ref a] vs Q I r ⟨a, xs, rfl, h1, by rw [← r1.len]; exact q _ H O F .refl or_int⟩
def gInt : D → Option Opd
  | .int i => some (.d (.int i))
  | .bl b => some (.d (.int (if b then 1 else 0)))
  | _ => none
theorem c_int : CallR X (.type "int") (rC1 X.K gInt) := by
  intro pins s σ' H us vs Q I r h
  obtain ⟨u, C, O, σ, ρ, x, z, rfl, ek, F, vx, ez, q⟩ := h
  cases x <;> try (simp [gInt] at ez; done)
  · cases ez
    exact call_int1 pins s σ' H [u] vs Q I r (.inr ⟨_, by rw [vw_bl vx], q _ H O F .refl or_int⟩)
  · cases ez
    exact call_int1 pins s σ' H [u] vs Q I r (.inl ⟨_, by rw [vw_int vx], q _ H O F .refl or_int⟩)
def gAbs : D → Option Opd
  | .int i => some (.d (.int (if i < 0 then -i else i)))
  | _ => none
theorem c_abs : CallR X (.builtin "abs") (rC1 X.K gAbs) := by
  intro pins s σ' H us vs Q I r h
  obtain ⟨u, C, O, σ, ρ, x, z, rfl, ek, F, vx, ez, q⟩ := h
  cases x <;> try (simp [gAbs] at ez; done)
  cases ez
  exact call_abs pins s σ' H [u] vs Q I r ⟨_, by rw [vw_int vx], q _ H O F .refl or_int⟩
def gMax : D → D → Option Opd
  | .int i, .int j => some (.d (.int (if j > i then j else i)))
  | _, _ => none
def gMin : D → D → Option Opd
  | .int i, .int j => some (.d (.int (if j < i then j else i)))
  | _, _ => none
theorem c_max (hc : X.calm = true) : CallR X (.builtin "max") (rC2 X.K gMax) := by
  intro pins s σ' H us vs Q I r h
  obtain ⟨u, v, C, O, σ, ρ, x, y, z, rfl, ek, F, vx, vy, ez, q⟩ := h
  cases x <;> cases y <;> try (simp [gMax] at ez; done)
  cases ez
  exact call_max2 hc pins s σ' H [u, v] vs Q I r ⟨_, _, by rw [vw_int vx, vw_int vy], q _ H O F .refl or_int⟩
theorem c_min (hc : X.calm = true) : CallR X (.builtin "min") (rC2 X.K gMin) := by
  intro pins s σ' H us vs Q I r h
  obtain ⟨u, v, C, O, σ, ρ, x, y, z, rfl, ek, F, vx, vy, ez, q⟩ := h
  cases x <;> cases y <;> try (simp [gMin] at ez; done)
  cases ez
  exact call_min2 hc pins s σ' H [u, v] vs Q I r ⟨_, _, by rw [vw_int vx, vw_int vy], q _ H O F .refl or_int⟩
def gTuple : D → Option Opd
  | .tup ds => some (.d (.tup ds))
  | .lst ds => some (.d (.tup ds))
  | .frl ds => some (.d (.tup ds))
  | _ => none
theorem c_tuple : CallR X (.type "tuple") (rC1 X.K gTuple) := by
  intro pins s σ' H us vs Q I r h
  obtain ⟨u, C, O, σ, ρ, x, z, rfl, ek, F, vx, ez, q⟩ := h
  have lst : ∀ {ds : List D}, z = .d (.tup ds) → ∀ {a : Addr} {xs : List V}, u = .ref a → SqL X.K H a xs → Reps X.K H O ds xs → wpAny (model X.prog X.w) X.A (call (.type "tuple") vs) (EP X pins σ' Q) X.xe s := fun {ds} ed {a xs} eu h1 r1 => by
    subst eu ed
    exact call_tuple_of pins s σ' H [.ref a] vs Q I r ⟨a, xs, rfl, .inl ⟨h1, fun l hl => q _ _ O (F.laid hl) (Fw.laid hl) (or_tup (.inl (.inl upd_same)) (by rw [ek]; exact r1.keep (fun b u e _ => updK hl b u e) F.mu fun _ h => h))⟩⟩
  cases x <;> try (simp [gTuple] at ez; done)
  · cases ez
    obtain ⟨a, xs, e1, h1, r1⟩ := vx
    exact lst rfl e1 (.inl (.inl h1)) r1
  · cases ez
    obtain ⟨a, xs, rfl, h1, r1⟩ := vw_tup vx
    exact call_tuple_of pins s σ' H [.ref a] vs Q I r ⟨a, xs, rfl, .inr ⟨h1, q _ H O F .refl (or_tup (by rw [ek]; exact h1) (by rw [ek]; exact r1))⟩⟩
  · cases ez
    obtain ⟨a, xs, e1, h1, r1⟩ := vw_frl vx
    exact lst rfl e1 h1.sq r1
def gList : D → Option Opd := fun x => (items x).bind fun ds => some (.nw ds)
theorem c_list : CallR X (.type "list") (rC1 X.K gList) := by
  intro pins s σ' H us vs Q I r h
  obtain ⟨u, C, O, σ, ρ, x, z, rfl, ek, F, vx, ez, q⟩ := h
  unfold gList at ez
  cases ei : items x with
  | none => rw [ei] at ez; cases ez
  | some ds =>
    rw [ei, Option.bind_some] at ez
    cases ez
    obtain ⟨a, xs, rfl, h1, r1⟩ := vw_items vx ei
    exact call_list_of pins s σ' H [.ref a] vs Q I r ⟨a, xs, rfl, h1, fun l hl => q _ _ O (F.laid hl) (Fw.laid hl) (OpR.new F hl (by rw [ek]; exact r1))⟩
def blsD : List D → Option (List Bool)
  | [] => some []
  | .bl i :: ds => (blsD ds).bind fun is => some (i :: is)
  | _ => none
theorem blsD_ok : ∀ {ds : List D} {ns : List Bool} {us : List V}, Reps K H O ds us → blsD ds = some ns → us = ns.map V.bl
  | [], ns, us, r, e => by rw [Reps] at r; cases e; exact r
  | d :: ds, ns, us, r, e => by
    rw [Reps] at r
    obtain ⟨v, rs, rfl, h1, h2⟩ := r
    cases d <;> try (simp [blsD] at e; done)
    rename_i i
    unfold blsD at e
    cases ei : blsD ds with
    | none => rw [ei] at e; cases e
    | some is =>
      rw [ei, Option.bind_some] at e
      cases e
      rw [List.map_cons, rp_bl h1, blsD_ok h2 ei]
def gAll : D → Option Opd
  | .lst ds => (blsD ds).bind fun ns => some (.d (.bl (ns.all _root_.id)))
  | _ => none
theorem c_all (hc : X.calm = true) : CallR X (.builtin "all") (rC1 X.K gAll) := by
  intro pins s σ' H us vs Q I r h
  obtain ⟨u, C, O, σ, ρ, x, z, rfl, ek, F, vx, ez, q⟩ := h
  cases x <;> try (simp [gAll] at ez; done)
  rename_i ds
  have ez : ((blsD ds).bind fun ns => some (Opd.d (.bl (ns.all _root_.id)))) = some z := ez
  cases en : blsD ds with
  | none => rw [en] at ez; cases ez
  | some ns =>
    rw [en, Option.bind_some] at ez
    cases ez
    obtain ⟨a, xs, rfl, h1, r1⟩ := vx
    have ex := blsD_ok r1 en
    subst ex
    exact cr_all hc pins s σ' H [.ref a] vs Q I r ⟨a, ns, rfl, .inl (.inl h1), q _ H O F .refl or_bl⟩
/-! isinstance -/
def tyN : D → Option String
  | .non => some "NoneType"
  | .bl _ => some "bool"
  | .int _ => some "int"
  | .str _ => some "str"
  | .lst _ => some "list"
  | .frl _ => some "list"
  | .tup _ => some "tuple"
  | .dct _ _ => none
  | .op _ => none
  | .odd .emp => some "dict"
  | .odd (.ins _) => none
/-- which of the types int, bool, str, list, tuple, dict it is -/
def isiT (a b : String) : Option Bool :=
  if b = "int" then some (a == "int" || a == "bool") else if b = "bool" then some (a == "bool") else if b = "str" then some (a == "str") else if b = "list" then some (a == "list") else if b = "tuple" then some (a == "tuple") else if b = "dict" then some (a == "dict") else none
def isiD : D → String → Option Bool
  | .odd (.ins _), n => if kinds0.contains n = true then some false else none
  | x, n => (tyN x).bind fun a => isiT a n
theorem isiT_ok {a b : String} {r : Bool} (ha : a = "NoneType" ∨ a = "bool" ∨ a = "int" ∨ a = "str" ∨ a = "list" ∨ a = "tuple" ∨ a = "dict") (h : isiT a b = some r) : kitB a b = some r := by
  unfold isiT at h
  repeat' split at h
  all_goals first
    | (cases h; done)
    | (subst_vars; rcases ha with rfl | rfl | rfl | rfl | rfl | rfl | rfl <;> (rw [← h]; decide +kernel))
theorem tyX_of {x : D} {u : V} {n : String} (h : Vw K H O x u) (e : tyN x = some n) : TyX K H u (.type n) ∧ (n = "NoneType" ∨ n = "bool" ∨ n = "int" ∨ n = "str" ∨ n = "list" ∨ n = "tuple" ∨ n = "dict") := by
  cases x with
  | non => cases e; rw [vw_non h]; exact ⟨.base .non, by simp⟩
  | bl b => cases e; rw [vw_bl h]; exact ⟨.base (.bl b), by simp⟩
  | int b => cases e; rw [vw_int h]; exact ⟨.base (.int b), by simp⟩
  | str b => cases e; rw [vw_str h]; exact ⟨.base (.str b), by simp⟩
  | lst ds => cases e; obtain ⟨a, xs, rfl, h1, _⟩ := h; exact ⟨.base (.lst h1), by simp⟩
  | frl ds =>
    cases e
    obtain ⟨a, xs, rfl, h1, _⟩ := vw_frl h
    rcases h1 with ⟨o, h1⟩ | ⟨o, its, n, h1, h2, _⟩
    · exact ⟨.base (.frz h1), by simp⟩
    · exact ⟨.kList h1 h2, by simp⟩
  | tup ds =>
    cases e
    obtain ⟨a, xs, rfl, h1, _⟩ := vw_tup h
    rcases h1 with (h1 | ⟨o, h1⟩) | ⟨o, its, n, h1, h2, _⟩
    · exact ⟨.base (.tup h1), by simp⟩
    · exact ⟨.fTuple h1, by simp⟩
    · exact ⟨.kTuple h1 h2, by simp⟩
  | op v => cases e
  | dct _ _ => cases e
  | odd o =>
    cases o with
    | ins C => cases e
    | emp =>
      cases e
      have h : Rep K H O (.odd .emp) u := h
      rw [Rep] at h
      obtain ⟨a, rfl, h1⟩ := h
      exact ⟨.base (.dT h1), by simp⟩
/-- the type of a thing, and what isinstance says of it -/
theorem isiD_ok {x : D} {u : V} (h : Vw K H O x u) {n : String} {b : Bool} (e : isiD x n = some b) : ∃ t, TyX K H u t ∧ ∀ m c, isiD x m = some c → PySem.W.kitOne K t (.type m) = some c := by
  have gen : ∀ a, tyN x = some a → (∀ m, isiD x m = (tyN x).bind fun a => isiT a m) → ∃ t, TyX K H u t ∧ ∀ m c, isiD x m = some c → PySem.W.kitOne K t (.type m) = some c := fun a et hi => by
    obtain ⟨ty, hm⟩ := tyX_of h et
    refine ⟨_, ty, fun m c e2 => ?_⟩
    rw [hi, et, Option.bind_some] at e2
    exact kit_ty (isiT_ok hm e2)
  cases x with
  | odd o =>
    cases o with
    | emp => exact gen _ rfl fun _ => rfl
    | ins C =>
      have h : Rep K H O (.odd (.ins C)) u := h
      rw [Rep] at h
      obtain ⟨a, rfl, ⟨dx, fs, h1⟩, h2, h3, h4, h5, h6, h7⟩ := h
      refine ⟨.ref C, .base (.ins h1 h2 h3 h4 h5 h6), fun m c e2 => ?_⟩
      have e2 : (if kinds0.contains m = true then some false else none) = some c := e2
      obtain ⟨hk, hc⟩ := some_if e2
      rw [← hc]
      exact h7 m (by simpa using hk)
  | op v => cases e
  | dct _ _ => cases e
  | _ => exact gen _ rfl fun _ => rfl
def gIsi : D → D → Option Opd
  | x, .op (.ty n) => (isiD x n).bind fun r => some (.d (.bl r))
  | _, _ => none
theorem c_isi : CallR X (.builtin "isinstance") (rC2 X.K gIsi) := by
  intro pins s σ' H us vs Q I r h
  obtain ⟨u, v, C, O, σ, ρ, x, y, z, rfl, ek, F, vx, vy, ez, q⟩ := h
  unfold gIsi at ez
  split at ez
  · rename_i n
    cases ei : isiD x n with
    | none => rw [ei] at ez; cases ez
    | some b =>
      rw [ei, Option.bind_some] at ez
      cases ez
      obtain ⟨t, ty, hk⟩ := isiD_ok vx ei
      have ev : v = .ty n := rp_op (K := X.K) (H := H) (O := O) vy
      subst ev
      exact call_isi pins s σ' H _ vs Q I r ⟨u, .ty n, t, .type n, b, rfl, .ty n, ty, hk n b ei, q _ H O F .refl or_bl⟩
  · cases ez
/-- isinstance(x, (T, U)), a written pair of types -/
def gIsi2 (n m : String) : D → Option Opd := fun x => (isiD x n).bind fun r => (isiD x m).bind fun r2 => some (.d (.bl (r || r2)))
theorem d_isi2 {n m : String} {t u : Expr} {k : Nat} {tp : Pos} (hm : X.mg "isinstance" = none) (ha : PE X a (tF X.K fa)) (ht : PE X t (tC (.ty n))) (hu : PE X u (tC (.ty m))) (hg : Gl X "isinstance" := by rfl)
    (hs1 : starEach [t, u] X.env = (false, eval t X.env) :: starEach [u] X.env := by rfl) (hs2 : starEach [u] X.env = (false, eval u X.env) :: starEach [] X.env := by rfl)
    (he : starEach [a, .Tuple [t, u] k tp] X.env = (false, eval a X.env) :: starEach [.Tuple [t, u] k tp] X.env := by rfl) (he2 : starEach [.Tuple [t, u] k tp] X.env = (false, eval (.Tuple [t, u] k tp) X.env) :: starEach [] X.env := by rfl) (hpl : (backTo pos (starEach [.Tuple [t, u] k tp] X.env)).any (·.1) = false := by rfl) :
    PE X (.Call (.Name "isinstance" p) [a, .Tuple [t, u] k tp] [] pos) (tF X.K (fB1 (gIsi2 n m) fa)) :=
  (pe_callB call_isiT hg hm PyProof.Rows.boot_isinstance (pa_cons ha (pa_cons (pe_tup (pa_cons ht (pa_cons hu pa_nil hs2) hs1)) pa_nil he2) he) (by decide) (by decide) he hpl).imp fun σ H Q h => by
    obtain ⟨C, O, ρ, o, ρ', ek, F, e, q⟩ := tC1 h
    refine ⟨C, O, ρ, o, ρ', ek, F, e, fun u H1 O1 F1 w1 r1 => ?_⟩
    obtain ⟨u', C2, O2, σ2, ρ2, x, z, eu, ek2, F2, vx, ez, q2⟩ := q u H1 O1 F1 w1 r1
    cases eu
    unfold gIsi2 at ez
    cases ei : isiD x n with
    | none => rw [ei] at ez; cases ez
    | some b =>
      rw [ei, Option.bind_some] at ez
      cases ej : isiD x m with
      | none => rw [ej] at ez; cases ez
      | some c =>
        rw [ej, Option.bind_some] at ez
        cases ez
        refine ⟨by rw [sizeLine_eq]; exact (show 2 ≤ 16777216 by decide), fun tpa htp => ?_⟩
        have G := F2.laid (o := .tup [.ty n, .ty m]) htp
        obtain ⟨ty, tyx, hk⟩ := isiD_ok (K := X.K) (H := upd H1 tpa (.tup [.ty n, .ty m])) (O := O2) (x := x) (u := u) (by
            cases x with
            | lst ds => obtain ⟨a', xs, e1, h1, r1⟩ := vx; exact ⟨a', xs, e1, updK htp _ _ h1, r1.keep (fun b u e _ => updK htp b u e) F2.mu fun _ h => h⟩
            | _ => exact Rep.keep (O := O2) (fun b u e _ => updK htp b u e) F2.mu (fun _ h => h) vx) ei
        refine ⟨u, tpa, [.ty n, .ty m], ty, [.type n, .type m], (b || c), rfl, upd_same, .cons (.ty n) (.cons (.ty m) .nil), tyx, ?_, q2 _ _ O2 G (Fw.laid htp) or_bl⟩
        refine kitAny_cons (hk n b ei) (fun hb => ?_) (fun hb => by rw [hb]; rfl)
        rw [hb, Bool.false_or]
        exact kitAny_cons (hk m c ej) (fun hc => by rw [hc]; exact kitAny_nil) fun hc => hc
/-! list(range(..)), tuple(range(..)) -/
def fLRg (f g : FP) : FE := fun ρ => (f ρ).bind fun p => (g p.2).bind fun q => p.1.bind fun i => q.1.bind fun j => if -(2 ^ 62) ≤ i ∧ i < 2 ^ 62 ∧ -(2 ^ 62) ≤ j ∧ j < 2 ^ 62 ∧ (j - i).toNat ≤ 16777216 then some (.nw (rgD i (j - i).toNat), q.2) else none
def pZero : FP := fun ρ => some (some 0, ρ)
end
end Dv

set_option Elab.async false
set_option linter.all false
set_option maxRecDepth 100000
set_option maxHeartbeats 2000000
/-! comprehensions, keywords, the law's end -/
namespace Dv
open PySem PySem.Spec PyProof.Rows L2

/-! ### slots of a comprehension's own -/
def wipeE (ρ : Ev) : List Nat → Ev
  | [] => ρ
  | v :: vs => (wipeE ρ vs).set v .un
section
variable {X : Cx} {K : PySem.W.Frag} {C : Fc} {O O' : AP} {σ σ' : L2.St} {ρ ρ' : Ev} {H H' : Hp}
theorem FR.wip : ∀ {vs : List Nat}, FR C O σ ρ H → FR C O (L2.wipe σ vs) (wipeE ρ vs) H
  | [], F => F
  | v :: vs, F => by unfold L2.wipe wipeE; exact (F.wip (vs := vs)).setun
theorem wipeE_in {i : Nat} {s : Sl} : ∀ {vs : List Nat}, i ∈ vs → (wipeE ρ vs)[i]? = some s → s = .un
  | v :: vs, h, e => by
    unfold wipeE at e
    by_cases hv : v = i
    · subst hv
      have hi := (List.getElem?_eq_some_iff.mp e).1
      rw [List.length_set] at hi
      rw [List.getElem?_set_self hi] at e
      exact (Option.some.inj e).symm
    · rw [List.getElem?_set_ne hv] at e
      exact wipeE_in ((List.mem_cons.mp h).resolve_left fun z => hv z.symm) e
theorem wipeE_out {i : Nat} : ∀ {vs : List Nat}, i ∉ vs → (wipeE ρ vs)[i]? = ρ[i]?
  | [], _ => rfl
  | v :: vs, h => by
    simp only [List.mem_cons, not_or] at h
    unfold wipeE
    rw [List.getElem?_set_ne fun z => h.1 z.symm, wipeE_out h.2]
/-- the slots of the comprehension's own hold nothing that is known: so the frame stands with any values there -/
theorem FR.unwipe {vs : List Nat} (F : FR C O (wipe σ vs) ρ H) (h : ∀ i s, i ∈ vs → ρ[i]? = some s → s = .un) : FR C O σ ρ H := by
  have out : ∀ {i : Nat} {s : Sl}, ρ[i]? = some s → s ≠ .un → (wipe σ vs)[i]? = σ[i]? := fun {i s} e n => wipe_out fun z => n (h i s z e)
  refine ⟨by rw [F.len, wipe_length], F.keep, F.mu, F.sub, F.sdom, F.bs, fun i s e => ?_, fun i j si sj a ei oi ej oj qi qj => ?_, F.held⟩
  · have z := F.slot i s e
    cases s with
    | un => trivial
    | val d => rw [out e (by simp)] at z; exact z
    | own d => rw [out e (by simp)] at z; exact z
    | bor d => rw [out e (by simp)] at z; exact z
  · refine F.inj i j si sj a ei oi ej oj ?_ ?_
    · rw [out ei (by rintro rfl; cases oi)]; exact qi
    · rw [out ej (by rintro rfl; cases oj)]; exact qj
/-- the outer values are back -/
def backS : Option Sl → Sl
  | some (.val d) => .val d
  | _ => .un
def backE (ρ0 : Ev) (ρ : Ev) : List Nat → Ev
  | [] => ρ
  | v :: vs => (backE ρ0 ρ vs).set v (backS ρ0[v]?)
/-- what stood at these slots, held -/
def outS (ρ0 : Ev) (σ : L2.St) : List Nat → List (D × V)
  | [] => []
  | v :: vs => (match ρ0[v]?, σ[v]? with
    | some (.val d), some (some x) => [(d, x)]
    | _, _ => []) ++ outS ρ0 σ vs
theorem outS_held (F : FR C O σ ρ H) : ∀ {vs : List Nat} {p : D × V}, p ∈ outS ρ σ vs → Rep C.K H O p.1 p.2
  | [], p, h => by cases h
  | v :: vs, p, h => by
    unfold outS at h
    rcases List.mem_append.mp h with h | h
    · split at h
      · rename_i d x e1 e2
        rw [List.mem_singleton] at h
        subst h
        obtain ⟨u, e3, r⟩ := F.slot v _ e1
        rw [e2] at e3; cases e3
        exact r
      · cases h
    · exact outS_held F h
theorem mem_outS {ρ0 : Ev} {v : Nat} {d : D} {x : V} (e : ρ0[v]? = some (.val d)) (hx : σ[v]? = some (some x)) : ∀ {vs : List Nat}, v ∈ vs → (d, x) ∈ outS ρ0 σ vs
  | w :: vs, h => by
    unfold outS
    rcases List.mem_cons.mp h with rfl | h
    · rw [e, hx]; exact List.mem_append_left _ (by simp)
    · exact List.mem_append_right _ (mem_outS e hx h)
theorem FR.back {ρ0 : Ev} : ∀ {vs : List Nat}, FR C O σ ρ H → (∀ v d, v ∈ vs → ρ0[v]? = some (.val d) → ∃ x, σ[v]? = some (some x) ∧ Rep C.K H O d x) → FR C O σ (backE ρ0 ρ vs) H
  | [], F, _ => F
  | v :: vs, F, h => by
    have G := F.back (vs := vs) fun w d hw e => h w d (List.mem_cons_of_mem _ hw) e
    unfold backE
    cases e : ρ0[v]? with
    | none =>
      have z := G.setun (i := v) (x := (σ[v]?).getD none)
      have : σ.set v ((σ[v]?).getD none) = σ := by
        apply List.ext_getElem?
        intro j
        by_cases hj : v = j
        · subst hj
          by_cases hv : v < σ.length
          · rw [List.getElem?_set_self hv, List.getElem?_eq_getElem hv]; rfl
          · rw [List.getElem?_eq_none (by simpa using hv), List.getElem?_eq_none (by simpa using hv)]
        · rw [List.getElem?_set_ne hj]
      rw [this] at z; exact z
    | some s =>
      have un : FR C O σ ((backE ρ0 ρ vs).set v .un) H := by
        have z := G.setun (i := v) (x := (σ[v]?).getD none)
        have : σ.set v ((σ[v]?).getD none) = σ := by
          apply List.ext_getElem?
          intro j
          by_cases hj : v = j
          · subst hj
            by_cases hv : v < σ.length
            · rw [List.getElem?_set_self hv, List.getElem?_eq_getElem hv]; rfl
            · rw [List.getElem?_eq_none (by simpa using hv), List.getElem?_eq_none (by simpa using hv)]
          · rw [List.getElem?_set_ne hj]
        rw [this] at z; exact z
      cases s with
      | val d =>
        obtain ⟨x, hx, rx⟩ := h v d List.mem_cons_self e
        have z := G.setv (i := v) rx
        have : σ.set v (some x) = σ := by
          apply List.ext_getElem?
          intro j
          by_cases hj : v = j
          · subst hj
            rw [hx, List.getElem?_set_self (List.getElem?_eq_some_iff.mp hx).1]
          · rw [List.getElem?_set_ne hj]
        rw [this] at z; exact z
      | un => exact un
      | own d => exact un
      | bor d => exact un
theorem backE_own {ρ0 : Ev} {b : Addr} : ∀ {vs : List Nat}, OwnA σ (backE ρ0 ρ vs) b → OwnA σ ρ b
  | [], h => h
  | v :: vs, h => by
    refine backE_own (ρ0 := ρ0) (vs := vs) ?_
    unfold backE at h
    obtain ⟨j, t, a1, a2, a3⟩ := h
    by_cases hj : v = j
    · subst hj
      have hi := (List.getElem?_eq_some_iff.mp a1).1
      rw [List.length_set] at hi
      rw [List.getElem?_set_self hi] at a1
      cases a1
      exfalso
      revert a2
      cases ρ0[v]? with
      | none => exact fun h => nomatch h
      | some s => cases s <;> exact fun h => nomatch h
    · rw [List.getElem?_set_ne hj] at a1; exact ⟨j, t, a1, a2, a3⟩

/-! ### the comprehension -/
def lcD (t : Tg) (ft : FT) (fe : FE) (vs : List Nat) : List D → Ev → List D → Option (List D × Ev)
  | [], ρ, acc => some (acc, ρ)
  | d :: ds, ρ, acc => (bindT t d ρ).bind fun ρ1 => (ft ρ1).bind fun p => if p.1 then (fe p.2).bind fun q => (esc q.1 q.2).bind fun r => if acc.length < 16777216 then lcD t ft fe vs ds (wipeE r.2 vs) (acc ++ [r.1]) else none
      else lcD t ft fe vs ds (wipeE p.2 vs) acc
def fLc (fi : FI) (t : Tg) (ft : FT) (fe : FE) (vs : List Nat) : FE := fun ρ => (fi ρ).bind fun p => (lcD t ft fe vs p.1 (wipeE p.2 vs) []).bind fun q => some (.nw q.1, backE p.2 q.2 vs)
def fYes : FT := fun ρ => some (true, ρ)
theorem ts_nil : PTs X [] (tT X.K fYes) := ⟨fun pins s σ H Q I h => pts_nil.run pins s σ H Q I (by
  obtain ⟨C, O, ρ, b, ρ', ek, F, e, q⟩ := h
  cases e
  exact q H O F .refl)⟩
theorem ts_one {c : Expr} {ft : FT} (h : PT X c (tT X.K ft)) : PTs X [c] (tT X.K ft) := pts_one h
theorem wipeE_own {vs : List Nat} {b : Addr} (h : OwnA (wipe σ vs) (wipeE ρ vs) b) : OwnA σ ρ b := by
  obtain ⟨j, t, a1, a2, a3⟩ := h
  by_cases hj : j ∈ vs
  · rw [wipeE_in hj a1] at a2; cases a2
  · rw [wipeE_out hj] at a1; rw [wipe_out hj] at a3; exact ⟨j, t, a1, a2, a3⟩
/-- behind the target: an own slot is one of before -/
theorem setAll_own {b : Addr} : ∀ {is : List Nat} {ds : List D} {ρ ρ' : Ev}, setAll is ds ρ = some ρ' → ∀ j (t : Sl), ρ'[j]? = some t → t.isOwn = true → ρ[j]? = some t ∧ j ∉ is
  | [], [], ρ, ρ', e, j, t, a, o => by cases e; exact ⟨a, by simp⟩
  | [], _ :: _, _, _, e, _, _, _, _ => by cases e
  | _ :: _, [], _, _, e, _, _, _, _ => by cases e
  | i :: is, d :: ds, ρ, ρ', e, j, t, a, o => by
    obtain ⟨h1, h2⟩ := setAll_own (b := b) (is := is) (ds := ds) (ρ := ρ.set i (.val d)) e j t a o
    by_cases hj : i = j
    · subst hj
      have hi := (List.getElem?_eq_some_iff.mp h1).1
      rw [List.length_set] at hi
      rw [List.getElem?_set_self hi] at h1
      cases h1; cases o
    · rw [List.getElem?_set_ne hj] at h1
      exact ⟨h1, by simp only [List.mem_cons, not_or]; exact ⟨fun z => hj z.symm, h2⟩⟩
theorem bindT_own {t : Tg} {d : D} (e : bindT t d ρ = some ρ') (o : Only t.sl σ σ') {b : Addr} (h : OwnA σ' ρ' b) : OwnA σ ρ b := by
  obtain ⟨j, s, a1, a2, a3⟩ := h
  have key : ρ[j]? = some s ∧ j ∉ t.sl := by
    cases t with
    | nm i =>
      cases e
      by_cases hj : i = j
      · subst hj
        have hi := (List.getElem?_eq_some_iff.mp a1).1
        rw [List.length_set] at hi
        rw [List.getElem?_set_self hi] at a1
        cases a1; cases a2
      · rw [List.getElem?_set_ne hj] at a1
        exact ⟨a1, by simpa [Tg.sl] using fun z => hj z.symm⟩
    | tp is =>
      cases d <;> try (cases e; done)
      exact setAll_own (b := b) e j s a1 a2
  exact ⟨j, s, key.1, a2, by rw [← o.2 j key.2]; exact a3⟩
theorem wipe_only {is vs : List Nat} (o : Only is σ σ') (h : ∀ i ∈ is, i ∈ vs) : wipe σ' vs = wipe σ vs := by
  apply List.ext_getElem?
  intro j
  by_cases hj : j ∈ vs
  · have none_of : ∀ (τ : L2.St), τ.length = σ.length → (wipe τ vs)[j]? = if j < σ.length then some none else none := fun τ hl => by
      by_cases hl2 : j < σ.length
      · rw [if_pos hl2]
        cases q : (wipe τ vs)[j]? with
        | none => rw [List.getElem?_eq_none_iff, wipe_length, hl] at q; omega
        | some x =>
          cases x with
          | none => rfl
          | some y => exact absurd hj (wipe_some q).2
      · rw [if_neg hl2, List.getElem?_eq_none (by rw [wipe_length, hl]; omega)]
    rw [none_of σ' o.1, none_of σ rfl]
  · rw [wipe_out hj, wipe_out hj, o.2 j fun z => hj (h j z)]
theorem tLcD {fi : FI} {t : Tg} {ft : FT} {fe : FE} {vs : List Nat} {Q : VK} (hv : ∀ i ∈ t.sl, i ∈ vs) (h : tF K (fLc fi t ft fe vs) σ H Q) : tLc (tI K fi) (tG K t) (tT K ft) (tF K fe) vs σ H Q := by
  obtain ⟨C, O, ρ, o, ρ', ek, F, e, q⟩ := h
  unfold fLc at e
  cases ei : fi ρ with
  | none => rw [ei] at e; cases e
  | some p =>
    obtain ⟨ds, ρ1⟩ := p
    rw [ei, Option.bind_some] at e
    cases el : lcD t ft fe vs ds (wipeE ρ1 vs) [] with
    | none => simp [el] at e
    | some p2 =>
      obtain ⟨acc, ρ2⟩ := p2
      simp only [el, Option.bind_some] at e
      cases e
      refine ⟨C, O, ρ, ds, ρ1, ek, F, ei, fun J hd H1 O1 F1 w1 rh wk D hD => ?_⟩
      -- the invariant
      let C' : Fc := { C with G := hd ++ (outS ρ1 σ vs ++ C.G) }
      let O0 : AP := fun b => b = D ∨ O1 b
      have nO1 : ¬ O1 D := fun z => by obtain ⟨ys, y⟩ := F1.mu D z; rw [hD] at y; cases y
      have nOwn : ¬ OwnA σ ρ1 D := fun z => nO1 (F1.ownO z)
      have G0 : FR C' O0 (wipe σ vs) (wipeE ρ1 vs) (upd H1 D (.lst [])) := by
        refine ((F1.more (xs := []) hD).wip (vs := vs)).hold fun p hp => ?_
        have cr : ∀ {d v}, Rep C.K H1 O1 d v → Rep C.K (upd H1 D (.lst [])) O0 d v := fun r => r.fresh (N := fun a => a = D) (updK hD) fun q h => by rw [h]; exact hD
        rcases List.mem_append.mp hp with hp | hp
        · exact cr (by rw [ek]; exact rh p hp)
        · rcases List.mem_append.mp hp with hp | hp
          · exact cr (outS_held F1 hp)
          · exact cr (F1.held p hp)
      let Pv : Nat → Hp → Prop := fun i Hi => i ≤ ds.length ∧ ∃ Oi ρi acci accV, FR C' Oi (wipe σ vs) ρi Hi ∧ lcD t ft fe vs (ds.drop i) ρi acci = some (acc, ρ2) ∧ (∀ i s, i ∈ vs → ρi[i]? = some s → s = .un) ∧
        Hi D = some (.lst accV) ∧ Reps C.K Hi Oi acci accV ∧ Oi D ∧ ¬ OwnA (wipe σ vs) ρi D ∧ ((∀ b o, H1 b = some o → ¬ OwnA σ ρ1 b → Hi b = some o) ∧ (∀ b, OwnA (wipe σ vs) ρi b → OwnA σ ρ1 b) ∧ (∀ a, Oi a → a = D ∨ O1 a) ∧ ∀ a, O1 a → Oi a ∨ OwnA σ ρ1 a)
      have h0 : Pv 0 (upd H1 D (.lst [])) := ⟨Nat.zero_le _, O0, wipeE ρ1 vs, [], [], G0, el, fun i s hi e => wipeE_in hi e, upd_same, .nil, .inl rfl, fun z => nOwn (wipeE_own z), fun b o hb _ => updK hD b o hb, fun b hb => wipeE_own hb, fun a ha => ha, fun a ha => .inl (.inr ha)⟩
      have rep_of : ∀ {i Hi}, Pv i Hi → ∃ Oi, ∀ p ∈ hd, Rep K Hi Oi p.1 p.2 := fun {i Hi} ⟨_, Oi, ρi, _, _, Fi, _⟩ => ⟨Oi, fun p hp => by rw [← ek]; exact Fi.held p (List.mem_append_left _ hp)⟩
      refine ⟨fun i m Hi => m = ds.length - i ∧ Pv i Hi, ⟨_, rfl, h0⟩, ?_⟩
      rintro i m Hi ⟨rfl, pv⟩
      obtain ⟨Ox, rx⟩ := rep_of pv
      by_cases hlt : i < ds.length
      · refine .inr ⟨wk.go i Hi Ox hlt rx, Pv (i + 1), fun H' h' => ⟨ds.length - (i + 1), by omega, rfl, h'⟩, fun x H' y => ?_⟩
        obtain ⟨hle, Oi, ρi, acci, accV, Fi, eli, hun, hDi, rai, oDi, nDi, wi⟩ := pv
        obtain ⟨hH, d, hdd, rd⟩ := wk.yld i Hi Oi x H' hlt Fi.mu (fun p hp => by rw [← ek]; exact Fi.held p (List.mem_append_left _ hp)) y
        have up : ∀ b o, Hi b = some o → H' b = some o := by
          rcases hH with rfl | ⟨p, o, hp, rfl⟩
          · exact fun b o h => h
          · exact updK hp
        have ol0 := Fi.mu
        replace Fi : FR C' Oi (wipe σ vs) ρi H' := by
          rcases hH with rfl | ⟨p, o, hp, rfl⟩
          · exact Fi
          · exact Fi.laid hp
        replace rai : Reps C.K H' Oi acci accV := Reps.keep (fun b o h _ => up b o h) ol0 (fun _ h => h) rai
        replace hDi := up _ _ hDi
        replace wi := (⟨fun b o h n => up b o (wi.1 b o h n), wi.2⟩ : (∀ b o, H1 b = some o → ¬ OwnA σ ρ1 b → H' b = some o) ∧ _)
        have hdrop : ds.drop i = d :: ds.drop (i + 1) := by
          rw [List.drop_eq_getElem_cons hlt]
          congr 1
          rw [List.getElem?_eq_getElem hlt] at hdd
          exact Option.some.inj hdd
        rw [hdrop] at eli
        unfold lcD at eli
        cases eb : bindT t d ρi with
        | none => rw [eb] at eli; cases eli
        | some ρ3 =>
          rw [eb, Option.bind_some] at eli
          refine ⟨C', Oi, ρi, d, ρ3, ek, Fi, rd, eb, fun σ2 F2 on => ⟨?_, ?_⟩⟩
          · have z := wipe_only on (vs := vs) hv
            rw [z]
            apply List.ext_getElem?
            intro j
            by_cases hj : j ∈ vs
            · cases q1 : (wipe σ vs)[j]? with
              | none =>
                rw [List.getElem?_eq_none_iff, wipe_length] at q1
                rw [List.getElem?_eq_none (by rw [wipe_length, wipe_length]; exact q1)]
              | some y =>
                have hl : j < σ.length := by have := (List.getElem?_eq_some_iff.mp q1).1; rwa [wipe_length] at this
                cases y with
                | some u => exact absurd hj (wipe_some q1).2
                | none =>
                  cases q2 : (wipe (wipe σ vs) vs)[j]? with
                  | none => rw [List.getElem?_eq_none_iff, wipe_length, wipe_length] at q2; omega
                  | some y =>
                    cases y with
                    | none => rfl
                    | some u => exact absurd hj (wipe_some q2).2
            · rw [wipe_out hj]
          · have wsig : wipe σ2 vs = wipe σ vs := by
              rw [wipe_only on (vs := vs) hv]
              apply List.ext_getElem?
              intro j
              by_cases hj : j ∈ vs
              · cases q1 : (wipe σ vs)[j]? with
                | none =>
                  rw [List.getElem?_eq_none_iff, wipe_length] at q1
                  rw [List.getElem?_eq_none (by rw [wipe_length, wipe_length]; exact q1)]
                | some y =>
                  have hl : j < σ.length := by have := (List.getElem?_eq_some_iff.mp q1).1; rwa [wipe_length] at this
                  cases y with
                  | some u => exact absurd hj (wipe_some q1).2
                  | none =>
                    cases q2 : (wipe (wipe σ vs) vs)[j]? with
                    | none => rw [List.getElem?_eq_none_iff, wipe_length, wipe_length] at q2; omega
                    | some y =>
                      cases y with
                      | none => rfl
                      | some u => exact absurd hj (wipe_some q2).2
              · rw [wipe_out hj]
            have own2 : ∀ {b}, OwnA σ2 ρ3 b → OwnA (wipe σ vs) ρi b := fun z => bindT_own eb on z
            cases ec : ft ρ3 with
            | none => rw [ec] at eli; cases eli
            | some p =>
              obtain ⟨b, ρ4⟩ := p
              rw [ec, Option.bind_some] at eli
              refine ⟨C', Oi, ρ3, b, ρ4, ek, F2, ec, fun H4 O4 F4 w4 => ?_⟩
              -- the end of a turn
              have fin : ∀ {O5 ρ5 H5 acc5 accV5}, FR C' O5 σ2 ρ5 H5 → (∀ b o, b ≠ D → H' b = some o → ¬ OwnA σ2 ρ3 b → H5 b = some o) → (∀ b, OwnA σ2 ρ5 b → OwnA σ2 ρ3 b) → (∀ a, O5 a → Oi a) → (∀ a, Oi a → O5 a ∨ OwnA σ2 ρ3 a) →
                  lcD t ft fe vs (ds.drop (i + 1)) (wipeE ρ5 vs) acc5 = some (acc, ρ2) → H5 D = some (.lst accV5) → Reps C.K H5 O5 acc5 accV5 → Pv (i + 1) H5 := fun {O5 ρ5 H5 acc5 accV5} F5 k5 ow5 sub5 stay5 e5 h5 r5 => by
                have o5 : O5 D := (stay5 D oDi).elim _root_.id fun z => absurd (own2 z) nDi
                have ow : ∀ {b}, OwnA (wipe σ vs) (wipeE ρ5 vs) b → OwnA (wipe σ vs) ρi b := fun {b} z => by
                  rw [← wsig] at z
                  exact own2 (ow5 b (wipeE_own z))
                obtain ⟨wk1, wk2, wk3, wk4⟩ := wi
                refine ⟨hlt, O5, wipeE ρ5 vs, acc5, accV5, by have z := F5.wip (vs := vs); rw [wsig] at z; exact z, e5, fun i s hi e => wipeE_in hi e, h5, r5, o5, fun z => nDi (ow z), fun b o hb n => ?_, fun b z => wk2 b (ow z), fun a ha => wk3 a (sub5 a ha), fun a ha => ?_⟩
                · exact k5 b o (fun z => by rw [z, hD] at hb; cases hb) (wk1 b o hb n) fun z => n (wk2 b (own2 z))
                · rcases wk4 a ha with z | z
                  · exact (stay5 a z).imp _root_.id fun y => wk2 a (own2 y)
                  · exact .inr z
              cases b with
              | false => exact fin F4 (fun b o _ hb n => w4.kp b o hb n) w4.own w4.sub w4.stay eli (w4.kp D _ hDi fun z => nDi (own2 z)) (w4.reps F2 rai)
              | true =>
                simp only [if_true] at eli ⊢
                cases ee : fe ρ4 with
                | none => rw [ee] at eli; cases eli
                | some p =>
                  obtain ⟨o5, ρ5⟩ := p
                  rw [ee, Option.bind_some] at eli
                  simp only at eli
                  cases ex : esc o5 ρ5 with
                  | none => rw [ex] at eli; cases eli
                  | some p =>
                    obtain ⟨x5, ρ6⟩ := p
                    rw [ex, Option.bind_some] at eli
                    simp only at eli
                    split at eli
                    · rename_i hlen
                      refine ⟨C', O4, ρ4, o5, ρ5, ek, F4, ee, fun yv H5 O5 F5 w5 r5 => ?_⟩
                      obtain ⟨O6, F6, w6, r6⟩ := esc_ok r5.w F5 ex
                      have w46 := w4.trans (w5.trans w6)
                      have hD5 : H5 D = some (.lst accV) := w46.kp D _ hDi fun z => nDi (own2 z)
                      have ra5 := w46.reps F2 rai
                      have oD6 : O6 D := (w46.stay D oDi).elim _root_.id fun z => absurd (own2 z) nDi
                      have nD6 : ¬ OwnA σ2 ρ6 D := fun z => nDi (own2 (w46.own D z))
                      refine ⟨accV, hD5, by rw [sizeLine_eq, ← ra5.len]; exact hlen, ?_⟩
                      -- the write at D: no slot's own, kept out of all trees
                      have kp : Kep O6 H5 (upd H5 D (.lst (accV ++ [yv]))) := fun b u hb n => by rw [upd_ne (fun z : b = D => n (by rw [z]; exact oD6))]; exact hb
                      have F7 : FR C' O6 σ2 ρ6 (upd H5 D (.lst (accV ++ [yv]))) := by
                        have h0D : C.H0 D = none := F1.h0 hD
                        refine ⟨F6.len, fun b u hb n => ?_, fun a ha => ?_, F6.sub, F6.sdom, F6.bs, fun j s es => ?_, F6.inj, fun p hp => (F6.held p hp).keep kp F6.mu fun _ h => h⟩
                        · have : b ≠ D := fun z => by
                            have hb : C.H0 b = some u := hb
                            rw [z, h0D] at hb; cases hb
                          rw [upd_ne this]; exact F6.keep b u hb n
                        · by_cases ha' : a = D
                          · subst ha'; exact ⟨_, upd_same⟩
                          · rw [upd_ne ha']; exact F6.mu a ha
                        · have z := F6.slot j s es
                          cases s with
                          | un => trivial
                          | val d => obtain ⟨v, e1, r⟩ := z; exact ⟨v, e1, r.keep kp F6.mu fun _ h => h⟩
                          | own es' =>
                            obtain ⟨a, xs, e1, e2, r, oa, hh⟩ := z
                            have : a ≠ D := fun z => nD6 ⟨j, _, es, rfl, z ▸ e1⟩
                            exact ⟨a, xs, e1, by rw [upd_ne this]; exact e2, r.keep kp F6.mu fun _ h => h, oa, hh⟩
                          | bor es' =>
                            obtain ⟨a, xs, e1, e2, r, oa, hh⟩ := z
                            have : a ≠ D := fun z => nD6 ⟨j, _, es, rfl, z ▸ e1⟩
                            exact ⟨a, xs, e1, by rw [upd_ne this]; exact e2, r.keep kp F6.mu fun _ h => h, oa, hh⟩
                      exact fin F7 (fun b o hne hb n => by rw [upd_ne hne]; exact w46.kp b o hb n) w46.own w46.sub w46.stay eli upd_same ((ra5.append (.cons r6 .nil)).keep kp F6.mu fun _ h => h)
                    · cases eli
      · have : i = ds.length := by
          obtain ⟨hle, _⟩ := pv
          omega
        subst this
        obtain ⟨hle, Oi, ρi, acci, accV, Fi, eli, hun, hDi, rai, oDi, nDi, wi⟩ := pv
        rw [List.drop_length] at eli
        cases eli
        obtain ⟨wk1, wk2, wk3, wk4⟩ := wi
        have ownu : ∀ {b}, OwnA σ ρ2 b → OwnA (wipe σ vs) ρ2 b := fun {b} z => by
          obtain ⟨j, s, a1, a2, a3⟩ := z
          have hj : j ∉ vs := fun hj => by rw [hun j s hj a1] at a2; cases a2
          exact ⟨j, s, a1, a2, by rw [wipe_out hj]; exact a3⟩
        have G1 : FR C Oi σ ρ2 Hi := (Fi.unwipe hun).hold (G := C.G) fun p hp => Fi.held p (List.mem_append_right _ (List.mem_append_right _ hp))
        have G2 : FR C Oi σ (backE ρ1 ρ2 vs) Hi := G1.back fun v d hv e => by
          obtain ⟨x, hx, _⟩ := F1.slot v _ e
          exact ⟨x, hx, Fi.held (d, x) (List.mem_append_right _ (List.mem_append_left _ (mem_outS e hx hv)))⟩
        have h0D : C.H0 D = none := F1.h0 hD
        have nS : ¬ C.S D := fun z => by obtain ⟨ys, y⟩ := F1.sdom D z; rw [h0D] at y; cases y
        have nB : ¬ OwnA σ (backE ρ1 ρ2 vs) D := fun z => nDi (ownu (backE_own (ρ0 := ρ1) z))
        have G3 : FR C (fun a => Oi a ∧ a ≠ D) σ (backE ρ1 ρ2 vs) Hi := G2.less (fun a h => h.1) fun a h => by
          by_cases ha : a = D
          · subst ha; exact .inr ⟨nS, nB⟩
          · exact .inl ⟨h, ha⟩
        have cg : ∀ a, Oi a ↔ (a = D ∨ (Oi a ∧ a ≠ D)) := fun a => ⟨fun h => by
          by_cases ha : a = D
          · exact .inl ha
          · exact .inr ⟨h, ha⟩, fun h => h.elim (fun z => by rw [z]; exact oDi) fun z => z.1⟩
        refine .inl ⟨wk.stop Hi Ox rx, q _ Hi _ G3 (w1.trans ⟨wk1, fun b z => wk2 b (ownu (backE_own (ρ0 := ρ1) z)), fun a ha => (wk3 a ha.1).resolve_left ha.2, fun a ha => ?_⟩) ⟨D, accV, rfl, hDi, h0D, fun z => z.2 rfl, G2.congr cg, rai.less fun a h => (cg a).mpr h⟩⟩
        rcases wk4 a ha with z | z
        · exact .inl ⟨z, fun y => nO1 (y ▸ ha)⟩
        · exact .inr z
theorem d_lc {elt tg iter : Expr} {ifs : List Expr} {scope : Scope} {own : List (Str × Nat)} {pos : Pos} {fi : FI} {t : Tg} {ft : FT} {fe : FE} (hc : X.calm = true) (hN : X.N.Nodup) (ok : BlkOk X.N X.env.scope scope own) (hi : PI X tg iter (tI X.K fi))
    (hg : ∀ (s : Shared) (H : Hp) (C : Addr) (cl : List (Str × Addr)) (fp : List Addr), PG (X.blk s H scope (compEnvC scope cl C X.env) fp) tg (tG X.K t)) (ht : ∀ (s : Shared) (H : Hp) (C : Addr) (cl : List (Str × Addr)) (fp : List Addr), PTs (X.blk s H scope (compEnvC scope cl C X.env) fp) ifs (tT X.K ft))
    (he : ∀ (s : Shared) (H : Hp) (C : Addr) (cl : List (Str × Addr)) (fp : List Addr), PE (X.blk s H scope (compEnvC scope cl C X.env) fp) elt (tF X.K fe)) (hv : ∀ i ∈ t.sl, i ∈ own.map (·.2) := by decide) (hs : ∀ x, foldedSetIterable iter X.env x = pure x := by intro _; rfl) :
    PE X (.ListComp elt [⟨tg, iter, ifs, 0⟩] scope pos) (tF X.K (fLc fi t ft fe (own.map (·.2)))) := (pe_lc hc hN hi ok hg ht he hs).imp fun σ H Q h => tLcD hv h
/-- name = [..] on one line, the name a local of its own -/
theorem s_setLc {i : Nat} {y : Str} {py : Pos} {elt tg iter : Expr} {ifs : List Expr} {scope : Scope} {own : List (Str × Nat)} {pos spos : Pos} {fi : FI} {t : Tg} {ft : FT} {fe : FE} (hc : X.calm = true) (hN : X.N.Nodup) (ok : BlkOk X.N X.env.scope scope own) (hi : PI X tg iter (tI X.K fi))
    (hg : ∀ (s : Shared) (H : Hp) (C : Addr) (cl : List (Str × Addr)) (fp : List Addr), PG (X.blk s H scope (compEnvC scope cl C X.env) fp) tg (tG X.K t)) (ht : ∀ (s : Shared) (H : Hp) (C : Addr) (cl : List (Str × Addr)) (fp : List Addr), PTs (X.blk s H scope (compEnvC scope cl C X.env) fp) ifs (tT X.K ft))
    (he : ∀ (s : Shared) (H : Hp) (C : Addr) (cl : List (Str × Addr)) (fp : List Addr), PE (X.blk s H scope (compEnvC scope cl C X.env) fp) elt (tF X.K fe)) (hy : X.N[i]? = some y := by rfl) (hyl : X.env.scope.names.lookup y = some .local := by rfl)
    (hsw : swapsWith (.ListComp elt [⟨tg, iter, ifs, 0⟩] scope pos) (some (.Name y py)) spos.line X.env = pure true := by exact sw_true rfl rfl rfl (by decide +kernel)) (hv : ∀ i ∈ t.sl, i ∈ own.map (·.2) := by decide) (hs : ∀ x, foldedSetIterable iter X.env x = pure x := by intro _; rfl) :
    PS X (.Assign [.Name y py] (.ListComp elt [⟨tg, iter, ifs, 0⟩] scope pos) spos) (tS X.K (sSet i (fLc fi t ft fe (own.map (·.2))))) := (ps_setLc hc hN hy hyl hsw hi ok hg ht he hs).imp fun D σ H h => by
  obtain ⟨C, O, ρ, o, ρ', ek, F, e, q⟩ := (tSetV h : tF X.K _ σ H fun x H1 => gName i x σ H1 D.nx)
  exact tLcD hv ⟨C, O, ρ, o, ρ', ek, F, e, q⟩
/-! ### chains of two comparisons -/
def fCh (g g' : D → D → Option Opd) (fa fb fc : FE) : FE := fun ρ => (fa ρ).bind fun p => (fb p.2).bind fun q => (der q.2 p.1).bind fun x => (der q.2 q.1).bind fun y => (g x y).bind fun z => match z with
  | .d (.bl true) => (fc q.2).bind fun r => (der r.2 q.1).bind fun y' => (der r.2 r.1).bind fun w => (g' y' w).bind fun z => some (z, r.2)
  | .d (.bl false) => some (.d (.bl false), q.2)
  | _ => none
theorem tChD {g g' : D → D → Option Opd} {fa fb fc : FE} {Q : VK} (h : tF K (fCh g g' fa fb fc) σ H Q) : tChain (rD K g) (rD K g') (tF K fa) (tF K fb) (tF K fc) σ H Q := by
  obtain ⟨C, O, ρ, o, ρ', ek, F, e, q⟩ := h
  unfold fCh at e
  cases ea : fa ρ with
  | none => rw [ea] at e; cases e
  | some p =>
    obtain ⟨o1, ρ1⟩ := p
    rw [ea, Option.bind_some] at e
    cases eb : fb ρ1 with
    | none => simp [eb] at e
    | some p2 =>
      obtain ⟨o2, ρ2⟩ := p2
      simp only [eb, Option.bind_some] at e
      cases ex : der ρ2 o1 with
      | none => simp [ex] at e
      | some x =>
        simp only [ex, Option.bind_some] at e
        cases ey : der ρ2 o2 with
        | none => simp [ey] at e
        | some y =>
          simp only [ey, Option.bind_some] at e
          cases ez : g x y with
          | none => simp [ez] at e
          | some z =>
            simp only [ez, Option.bind_some] at e
            refine ⟨C, O, ρ, o1, ρ1, ek, F, ea, fun u H1 O1 F1 w1 r1 => ⟨C, O1, ρ1, o2, ρ2, ek, F1, eb, fun v H2 O2 F2 w2 r2 => ⟨C, O2, σ, ρ2, x, y, z, ek, F2, by rw [← ek]; exact (r1.w.fw F1 w2).vw F2 ex, by rw [← ek]; exact r2.w.vw F2 ey, ez, fun w H3 O3 F3 w3 r3 => ?_⟩⟩⟩
            split at e
            · have r3 : w = .bl true := rp_bl (K := C.K) (H := H3) (O := O3) r3
              subst r3
              refine ⟨true, rfl, ?_⟩
              simp only [if_true]
              cases ec : fc ρ2 with
              | none => rw [ec] at e; cases e
              | some p3 =>
                obtain ⟨o3, ρ3⟩ := p3
                simp only [ec, Option.bind_some] at e
                cases ey' : der ρ3 o2 with
                | none => simp [ey'] at e
                | some y' =>
                  simp only [ey', Option.bind_some] at e
                  cases ew : der ρ3 o3 with
                  | none => simp [ew] at e
                  | some w' =>
                    simp only [ew, Option.bind_some] at e
                    cases ez' : g' y' w' with
                    | none => simp [ez'] at e
                    | some z' =>
                      simp only [ez', Option.bind_some] at e
                      cases e
                      exact ⟨C, O3, ρ2, o3, _, ek, F3, ec, fun t H4 O4 F4 w4 r4 => ⟨C, O4, σ, _, y', w', _, ek, F4, by rw [← ek]; exact ((r2.w.fw F2 w3).fw F3 w4).vw F4 ey', by rw [← ek]; exact r4.w.vw F4 ew, ez', fun t2 H5 O5 F5 w5 r5 => q t2 H5 O5 F5 ((((w1.trans w2).trans w3).trans w4).trans w5) r5⟩⟩
            · have r3 : w = .bl false := rp_bl (K := C.K) (H := H3) (O := O3) r3
              subst r3
              cases e
              exact ⟨false, rfl, by rw [if_neg Bool.false_ne_true]; exact q _ H3 O3 F3 ((w1.trans w2).trans w3) or_bl⟩
            · cases e
theorem d_chain {op op' : CmpOp} {g g' : D → D → Option Opd} {fa fb fc : FE} {a b c : Expr} {pos : Pos} (ho : OpD X (compareOp op) g) (ho' : OpD X (compareOp op') g') (ha : PE X a (tF X.K fa)) (hb : PE X b (tF X.K fb)) (hc : PE X c (tF X.K fc)) (hm : lastMarks [op, op'] [b, c] = false := by with_unfolding_all rfl) :
    PE X (.Compare a [op, op'] [b, c] pos) (tF X.K (fCh g g' fa fb fc)) := (pe_chain ho ho' ha hb hc hm).imp fun σ H Q h => tChD h
theorem t_chain {op op' : CmpOp} {g g' : D → D → Option Opd} {fa fb fc : FE} {a b c : Expr} {pos : Pos} (ho : OpD X (compareOp op) g) (ho' : OpD X (compareOp op') g') (ha : PE X a (tF X.K fa)) (hb : PE X b (tF X.K fb)) (hc : PE X c (tF X.K fc)) (hm : lastMarks [op, op'] [b, c] = false := by with_unfolding_all rfl) :
    PT X (.Compare a [op, op'] [b, c] pos) (tT X.K (fTest (fCh g g' fa fb fc))) := (pt_chain ho ho' ha hb hc hm).imp fun σ H Q h => by
  obtain ⟨C, O, ρ, o, ρ', ek, F, e, q⟩ := tTst h
  exact tChD ⟨C, O, ρ, o, ρ', ek, F, e, q⟩
/-! ### a call by keywords alone, in the reverse order -/
def aRev (fa : FA) : FA := fun ρ => (fa ρ).bind fun p => some (p.1.reverse, p.2)
theorem OpWs.rev : ∀ {vs : List V} {os : List Opd}, OpWs C O σ H vs os → OpWs C O σ H vs.reverse os.reverse := fun {vs os} h => by
  have app : ∀ {vs os vs' os'}, OpWs C O σ H vs os → OpWs C O σ H vs' os' → OpWs C O σ H (vs ++ vs') (os ++ os') := fun {vs os vs' os'} h h' => by
    induction h with
    | nil => exact h'
    | cons a _ ih => exact .cons a ih
  induction h with
  | nil => exact .nil
  | cons a _ ih => rw [List.reverse_cons, List.reverse_cons]; exact app ih (.cons a .nil)
theorem _root_.L2.PK.imp {kws : List Keyword} {t t' : TA} (h : PK X kws t) (i : ∀ σ H Q, t' σ H Q → t σ H Q) : PK X kws t' := ⟨fun pos pins s σ H Q I q => h.run pos pins s σ H Q I (i σ H Q q)⟩
theorem k_nil : PK X [] (tAr X.K aNil) := pk_nil.imp fun σ H Q h => by
  obtain ⟨C, O, ρ, o, ρ', ek, F, e, q⟩ := h
  cases e
  exact q [] H O F .refl .nil
theorem k_cons {nm : Option Str} {e : Expr} {kpos : Pos} {kws : List Keyword} {f : FE} {g : FA} (ha : PE X e (tF X.K f)) (hr : PK X kws (tAr X.K g)) : PK X (⟨nm, e, kpos⟩ :: kws) (tAr X.K (aCons f g)) := (pk_cons ha hr).imp fun σ H Q h => by
  obtain ⟨C, O, ρ, o, ρ', ek, F, e, q⟩ := h
  unfold aCons at e
  cases ea : f ρ with
  | none => rw [ea] at e; cases e
  | some p =>
    obtain ⟨o1, ρ1⟩ := p
    rw [ea, Option.bind_some] at e
    cases eb : g ρ1 with
    | none => simp only [eb] at e; cases e
    | some p2 =>
      obtain ⟨os, ρ2⟩ := p2
      simp only [eb, Option.bind_some] at e
      cases e
      refine ⟨C, O, ρ, o1, ρ1, ek, F, ea, fun v H1 O1 F1 w r => ?_⟩
      exact ⟨C, O1, ρ1, os, _, ek, F1, eb, fun vs H2 O2 F2 w2 r2 => q (v :: vs) H2 O2 F2 (w.trans w2) (.cons (r.w.fw F1 w2) r2)⟩
theorem tArRev {fa : FA} {R : List V → Hp → Prop} (h : tAr K (aRev fa) σ H R) : tAr K fa σ H fun vs H1 => R vs.reverse H1 := by
  obtain ⟨C, O, ρ, os, ρ', ek, F, e, q⟩ := h
  unfold aRev at e
  cases ea : fa ρ with
  | none => rw [ea] at e; cases e
  | some p =>
    rw [ea, Option.bind_some] at e
    cases e
    exact ⟨C, O, ρ, p.1, p.2, ek, F, ea, fun vs H1 O1 F1 w r => q _ H1 O1 F1 w r.rev⟩
theorem d_callR {k n j : Nat} {x : Str} {ps : List Str} {φ : F0} {kws : List Keyword} {fa : FA} {p pos : Pos} (c : Cal X.prog X.w X.K X.mg X.base k x ps (spF0 X.K n φ)) (hn : ∀ ds r, φ ds = some r → ds.length = n) (hr : Room j X.A) (hk : k ≤ j) (ha : PK X kws (tAr X.K fa)) (hg : Gl X x := by rfl)
    (hall : (backToKw pos (keywordEach kws X.env)).all (·.1.isSome) = true := by rfl) (hks : (backToKw pos (keywordEach kws X.env)).filterMap (·.1) = ps.reverse := by rfl) (hdb : (x == ("__debug__" : Str)) = false := by decide)
    (hpl : ((backTo pos (starEach [] X.env)).any (·.1) || (backToKw pos (keywordEach kws X.env)).any (·.1.isNone)) = false := by rfl) : PE X (.Call (.Name x p) [] kws pos) (tF X.K (fCall φ (aRev fa))) := by
  obtain ⟨f, fd, hm, kp, F, b, kr⟩ := c.ex
  refine ⟨fun pins s σ H Q I h => ?_⟩
  have h2 := tArRev (tCallD (E := E0) hn h : tAr X.K (aRev fa) σ H fun vs H1 => spF0 X.K n φ (vs ++ []) H1 Q E0)
  refine wpAny_Call_Name_kw (ld_glob I hg hm ?_ hdb)
  refine PySem.W.callWith_KW0 (h₀ := X.base) I.ok.mod.kin kp hall (thn (ha.run pos pins s σ H _ I h2) fun ws s2 ⟨zs, H2, I2, rz, q2⟩ => ⟨I2.kIn, ?_⟩) hpl
  rw [hks]
  have q2 : spF0 X.K n φ (zs.reverse ++ []) H2 Q E0 := q2
  rw [List.append_nil] at q2
  have hl : ws.length = ps.length := by
    have := F.len _ _ _ _ q2
    rw [List.length_reverse] at this
    rw [← rz.length]; exact this
  refine wpAny_call (codeAny_mono (F.run X.A X.stack s2 H2 ⟨[], ps.reverse.zip ws⟩ ws.reverse zs.reverse Q E0 (hr.mono hk) I2.env0 (kr s2 ws I2.kIn hl) rz.reverse q2) fun r s' hq => ?_)
  cases r with
  | error e => exact False.elim hq
  | ok fl =>
    cases fl with
    | ret u => exact I2.after hq
    | next => exact False.elim hq
    | brk => exact False.elim hq
    | cont => exact False.elim hq
/-! ### the law's end -/
/-- what the law asks: the script is told True -/
theorem law_sp {K : PySem.W.Frag} {H : Hp} {a : Addr} {ns : List Int} {φ : F0} (hO : L2.Only H) (hS : SqL K H a (ns.map V.int)) (h : φ [.frl (ns.map D.int)] = some (.d (.bl true))) : spF0 K 1 φ [.ref a] H (fun v _ => v = .bl true) fun _ _ _ => False := by
  refine ⟨rfl, fun _ => False, [.frl (ns.map D.int)], .d (.bl true), h, fun a h => h.elim, .cons ?_ .nil, fun v H' _ hr => rp_bl (K := K) (H := H') (O := fun _ => False) hr⟩
  rw [Rep]
  refine ⟨a, ns.map V.int, rfl, ?_, Reps.of (by simp) fun i d v h1 h2 => ?_⟩
  · rcases hS with (hS | ⟨o, hS⟩) | hS
    · rcases hO a with z | ⟨o, xs, z⟩
      · rw [hS] at z; cases z
      · rw [hS] at z; cases z
    · exact .inl ⟨o, hS⟩
    · exact .inr hS
  · rw [List.getElem?_map] at h1 h2
    cases e : ns[i]? with
    | none => rw [e] at h1; cases h1
    | some n =>
      rw [e] at h1 h2
      cases h1; cases h2
      rw [Rep]
/-! ### a, b, .. = x, y, .. where the pair is made -/
theorem OpPs.laid {vs : List V} {os : List Opd} {N : List Addr} {p : Addr} {u : HO} (F : FR C O σ ρ H) (hp : H p = none) (h : OpPs C O σ ρ H vs os N) : OpPs C O σ ρ (upd H p u) vs os N := by
  have rk : ∀ {d v}, Rep C.K H O d v → Rep C.K (upd H p u) O d v := fun r => r.keep (fun b u e _ => updK hp b u e) F.mu fun _ h => h
  induction h with
  | nil => exact .nil
  | val hw n _ ih =>
    rename_i v o _ _ _ _
    refine .val ?_ n ih
    cases o with
    | d x => exact rk hw
    | nw ds => exact rk (show Rep C.K H O (.lst ds) v from hw)
    | sl i => exact hw
  | new hp' n _ ih =>
    obtain ⟨⟨xs, h1, r⟩, h0, o, no⟩ := hp'
    exact .new ⟨⟨xs, updK hp _ _ h1, r.keep (fun b u e _ => updK hp b u e) F.mu fun _ h => h⟩, h0, o, no⟩ n ih
/-! ### constants of the top -/
theorem glo_int {mg : Str → Option Value} {h : Heap} {x : Str} {i : Int} {t : Tok} (X : K.In h) (G : h.Ns mainGlobals mg) (a : PySem.W.nsIn K mainGlobals x = some (some (.int i t))) : Glo K mg x (.int i) := ⟨_, .int i, PySem.W.mg_of X G a, ⟨t, rfl⟩, fun _ _ => by rw [Rep]⟩
theorem flat_rep {O : AP} : ∀ {ds : List D}, ds.all flatD = true → Reps K H O ds (ds.map toV)
  | [], _ => .nil
  | d :: ds, f => by
    rw [List.all_cons, Bool.and_eq_true] at f
    refine .cons ?_ (flat_rep f.2)
    cases d <;> first | (rw [Rep]; rfl) | exact absurd f.1 (by simp [flatD])
theorem glo_tup {mg : Str → Option Value} {h : Heap} {x : Str} {ds : List D} {p : Addr} {dd : Option Addr} {its : Array Value} {n : Nat} {sl : Array (Option Value)} (X : K.In h) (G : h.Ns mainGlobals mg) (a : PySem.W.nsIn K mainGlobals x = some (some (.ref p)))
    (l : K.lookup p = some ⟨.type "tuple", dd, .seq its n, sl⟩) (r : Vals (ds.map toV) its.toList) (f : ds.all flatD = true) (z : its.size ≤ 16777216) : Glo K mg x (.tup ds) :=
  ⟨_, .ref p, PySem.W.mg_of X G a, rfl, fun H O => by
    rw [Rep]
    exact ⟨p, ds.map toV, rfl, .inr ⟨_, its, n, l, rfl, rfl, by rw [sizeLine_eq]; exact z, r⟩, flat_rep f⟩⟩
end
end Dv

set_option Elab.async false
set_option linter.all false
set_option maxRecDepth 100000
set_option maxHeartbeats 4000000
/-! evaluation of readings, step by step: no rewriting under a binder -/
namespace Dv
open PySem PySem.Spec PyProof.Rows L2
-- expressions
def kRet (ρ : Ev) (x : Option Opd) : Option (Opd × Ev) := x.bind fun z => some (z, ρ)
theorem kRet_s {ρ : Ev} {z : Opd} : kRet ρ (some z) = some (z, ρ) := (rfl)
theorem ev_name {i : Nat} {ρ : Ev} : fName i ρ = kRet ρ (nmS i ρ[i]?) := (rfl)
theorem ev_c {x : D} {ρ : Ev} : fC x ρ = some (.d x, ρ) := (rfl)
theorem nm_val {i : Nat} {d : D} : nmS i (some (.val d)) = some (.d d) := (rfl)
theorem nm_own {i : Nat} {d : List D} : nmS i (some (.own d)) = some (.sl i) := (rfl)
theorem nm_bor {i : Nat} {d : List D} : nmS i (some (.bor d)) = some (.sl i) := (rfl)
theorem der_d {ρ : Ev} {x : D} : der ρ (.d x) = some x := (rfl)
theorem der_nw {ρ : Ev} {x : List D} : der ρ (.nw x) = some (.lst x) := (rfl)
theorem der_sl {ρ : Ev} {i : Nat} : der ρ (.sl i) = slD ρ[i]? := (rfl)
theorem sl_own {d : List D} : slD (some (.own d)) = some (.lst d) := (rfl)
theorem sl_bor {d : List D} : slD (some (.bor d)) = some (.lst d) := (rfl)
theorem sl_val {d : D} : slD (some (.val d)) = some d := (rfl)
def kBin (g : D → D → Option Opd) (fb : FE) (x : Option (Opd × Ev)) : Option (Opd × Ev) := x.bind fun p => (fb p.2).bind fun q => (der q.2 p.1).bind fun x => (der q.2 q.1).bind fun y => (g x y).bind fun z => some (z, q.2)
def kBin2 (g : D → D → Option Opd) (o : Opd) (x : Option (Opd × Ev)) : Option (Opd × Ev) := x.bind fun q => (der q.2 o).bind fun x => (der q.2 q.1).bind fun y => (g x y).bind fun z => some (z, q.2)
def kBin3 (g : D → D → Option Opd) (o2 : Opd) (ρ : Ev) (x : Option D) : Option (Opd × Ev) := x.bind fun x => (der ρ o2).bind fun y => (g x y).bind fun z => some (z, ρ)
def kBin4 (g : D → D → Option Opd) (x : D) (ρ : Ev) (y : Option D) : Option (Opd × Ev) := y.bind fun y => (g x y).bind fun z => some (z, ρ)
theorem ev_bin {g : D → D → Option Opd} {fa fb : FE} {ρ : Ev} : fBin g fa fb ρ = kBin g fb (fa ρ) := (rfl)
theorem kBin_s {g : D → D → Option Opd} {fb : FE} {o : Opd} {ρ : Ev} : kBin g fb (some (o, ρ)) = kBin2 g o (fb ρ) := (rfl)
theorem kBin2_s {g : D → D → Option Opd} {o o2 : Opd} {ρ : Ev} : kBin2 g o (some (o2, ρ)) = kBin3 g o2 ρ (der ρ o) := (rfl)
theorem kBin3_s {g : D → D → Option Opd} {o2 : Opd} {x : D} {ρ : Ev} : kBin3 g o2 ρ (some x) = kBin4 g x ρ (der ρ o2) := (rfl)
theorem kBin4_s {g : D → D → Option Opd} {x y : D} {ρ : Ev} : kBin4 g x ρ (some y) = kRet ρ (g x y) := (rfl)
def kOne (g : D → Option Opd) (x : Option (Opd × Ev)) : Option (Opd × Ev) := x.bind fun p => (der p.2 p.1).bind fun x => (g x).bind fun z => some (z, p.2)
def kOne2 (g : D → Option Opd) (ρ : Ev) (x : Option D) : Option (Opd × Ev) := x.bind fun x => (g x).bind fun z => some (z, ρ)
theorem ev_b1 {g : D → Option Opd} {f : FE} {ρ : Ev} : fB1 g f ρ = kOne g (f ρ) := (rfl)
theorem kOne_s {g : D → Option Opd} {o : Opd} {ρ : Ev} : kOne g (some (o, ρ)) = kOne2 g ρ (der ρ o) := (rfl)
theorem kOne2_s {g : D → Option Opd} {x : D} {ρ : Ev} : kOne2 g ρ (some x) = kRet ρ (g x) := (rfl)
def kRetD (ρ : Ev) (x : Option D) : Option (Opd × Ev) := x.bind fun z => some (.d z, ρ)
theorem kRetD_s {ρ : Ev} {z : D} : kRetD ρ (some z) = some (.d z, ρ) := (rfl)
def kUn1 (g : D → Option D) (x : Option (Opd × Ev)) : Option (Opd × Ev) := x.bind fun p => (der p.2 p.1).bind fun x => (g x).bind fun z => some (.d z, p.2)
def kUn12 (g : D → Option D) (ρ : Ev) (x : Option D) : Option (Opd × Ev) := x.bind fun x => (g x).bind fun z => some (.d z, ρ)
theorem ev_un {g : D → Option D} {f : FE} {ρ : Ev} : fUn g f ρ = kUn1 g (f ρ) := (rfl)
theorem kUn1_s {g : D → Option D} {o : Opd} {ρ : Ev} : kUn1 g (some (o, ρ)) = kUn12 g ρ (der ρ o) := (rfl)
theorem kUn12_s {g : D → Option D} {x : D} {ρ : Ev} : kUn12 g ρ (some x) = kRetD ρ (g x) := (rfl)
theorem gNeg_i {i : Int} : gNeg (.int i) = some (.int (-i)) := (rfl)
-- tests
def kTst (x : Option (Opd × Ev)) : Option (Bool × Ev) := x.bind asB
theorem ev_test {f : FE} {ρ : Ev} : fTest f ρ = kTst (f ρ) := (rfl)
theorem kTst_s {b : Bool} {ρ : Ev} : kTst (some (.d (.bl b), ρ)) = some (b, ρ) := (rfl)
def kAnd (fu : FT) (x : Option (Bool × Ev)) : Option (Bool × Ev) := x.bind fun p => if p.1 then fu p.2 else some (false, p.2)
def kOr (fu : FT) (x : Option (Bool × Ev)) : Option (Bool × Ev) := x.bind fun p => if p.1 then some (true, p.2) else fu p.2
def kNot (x : Option (Bool × Ev)) : Option (Bool × Ev) := x.bind fun p => some (!p.1, p.2)
theorem ev_and {ft fu : FT} {ρ : Ev} : fAnd ft fu ρ = kAnd fu (ft ρ) := (rfl)
theorem ev_or {ft fu : FT} {ρ : Ev} : fOr ft fu ρ = kOr fu (ft ρ) := (rfl)
theorem ev_not {ft : FT} {ρ : Ev} : fNot ft ρ = kNot (ft ρ) := (rfl)
theorem kAnd_t {fu : FT} {ρ : Ev} : kAnd fu (some (true, ρ)) = fu ρ := (rfl)
theorem kAnd_f {fu : FT} {ρ : Ev} : kAnd fu (some (false, ρ)) = some (false, ρ) := (rfl)
theorem kOr_t {fu : FT} {ρ : Ev} : kOr fu (some (true, ρ)) = some (true, ρ) := (rfl)
theorem kOr_f {fu : FT} {ρ : Ev} : kOr fu (some (false, ρ)) = fu ρ := (rfl)
theorem kNot_s {b : Bool} {ρ : Ev} : kNot (some (b, ρ)) = some (!b, ρ) := (rfl)
def kBl (x : Option (Bool × Ev)) : Option (Opd × Ev) := x.bind fun p => some (.d (.bl p.1), p.2)
theorem ev_notV {f : FE} {ρ : Ev} : fNotV f ρ = kBl (kNot (kTst (f ρ))) := (rfl)
theorem kBl_s {b : Bool} {ρ : Ev} : kBl (some (b, ρ)) = some (.d (.bl b), ρ) := (rfl)
def kAndV (g : FE) (x : Option (Bool × Ev)) : Option (Opd × Ev) := x.bind fun p => if p.1 then g p.2 else some (.d (.bl false), p.2)
def kOrV (g : FE) (x : Option (Bool × Ev)) : Option (Opd × Ev) := x.bind fun p => if p.1 then some (.d (.bl true), p.2) else g p.2
theorem ev_andV {f g : FE} {ρ : Ev} : fAndV f g ρ = kAndV g (kTst (f ρ)) := (rfl)
theorem ev_orV {f g : FE} {ρ : Ev} : fOrV f g ρ = kOrV g (kTst (f ρ)) := (rfl)
theorem kAndV_t {g : FE} {ρ : Ev} : kAndV g (some (true, ρ)) = g ρ := (rfl)
theorem kAndV_f {g : FE} {ρ : Ev} : kAndV g (some (false, ρ)) = some (.d (.bl false), ρ) := (rfl)
theorem kOrV_t {g : FE} {ρ : Ev} : kOrV g (some (true, ρ)) = some (.d (.bl true), ρ) := (rfl)
theorem kOrV_f {g : FE} {ρ : Ev} : kOrV g (some (false, ρ)) = g ρ := (rfl)
def kIfE (fa fb : FE) (x : Option (Bool × Ev)) : Option (Opd × Ev) := x.bind fun p => if p.1 then fa p.2 else fb p.2
theorem ev_if {ft : FT} {fa fb : FE} {ρ : Ev} : fIf ft fa fb ρ = kIfE fa fb (ft ρ) := (rfl)
theorem kIfE_t {fa fb : FE} {ρ : Ev} : kIfE fa fb (some (true, ρ)) = fa ρ := (rfl)
theorem kIfE_f {fa fb : FE} {ρ : Ev} : kIfE fa fb (some (false, ρ)) = fb ρ := (rfl)
theorem ev_yes {ρ : Ev} : fYes ρ = some (true, ρ) := (rfl)
-- chains
def kCh (g g' : D → D → Option Opd) (fb fc : FE) (x : Option (Opd × Ev)) : Option (Opd × Ev) := fCh g g' (fun _ => x) fb fc []
def kCh2 (g g' : D → D → Option Opd) (fc : FE) (o : Opd) (x : Option (Opd × Ev)) : Option (Opd × Ev) := x.bind fun q => (der q.2 o).bind fun x => (der q.2 q.1).bind fun y => (g x y).bind fun z => match z with
  | .d (.bl true) => (fc q.2).bind fun r => (der r.2 q.1).bind fun y' => (der r.2 r.1).bind fun w => (g' y' w).bind fun z => some (z, r.2)
  | .d (.bl false) => some (.d (.bl false), q.2)
  | _ => none
def kCh3 (g g' : D → D → Option Opd) (fc : FE) (o2 : Opd) (ρ : Ev) (x : Option D) : Option (Opd × Ev) := x.bind fun x => (der ρ o2).bind fun y => (g x y).bind fun z => match z with
  | .d (.bl true) => (fc ρ).bind fun r => (der r.2 o2).bind fun y' => (der r.2 r.1).bind fun w => (g' y' w).bind fun z => some (z, r.2)
  | .d (.bl false) => some (.d (.bl false), ρ)
  | _ => none
def kCh4 (g g' : D → D → Option Opd) (fc : FE) (o2 : Opd) (x : D) (ρ : Ev) (y : Option D) : Option (Opd × Ev) := y.bind fun y => (g x y).bind fun z => match z with
  | .d (.bl true) => (fc ρ).bind fun r => (der r.2 o2).bind fun y' => (der r.2 r.1).bind fun w => (g' y' w).bind fun z => some (z, r.2)
  | .d (.bl false) => some (.d (.bl false), ρ)
  | _ => none
def kCh5 (g' : D → D → Option Opd) (fc : FE) (o2 : Opd) (ρ : Ev) (z : Option Opd) : Option (Opd × Ev) := z.bind fun z => match z with
  | .d (.bl true) => (fc ρ).bind fun r => (der r.2 o2).bind fun y' => (der r.2 r.1).bind fun w => (g' y' w).bind fun z => some (z, r.2)
  | .d (.bl false) => some (.d (.bl false), ρ)
  | _ => none
theorem ev_ch {g g' : D → D → Option Opd} {fa fb fc : FE} {ρ : Ev} : fCh g g' fa fb fc ρ = kCh g g' fb fc (fa ρ) := (rfl)
theorem kCh_s {g g' : D → D → Option Opd} {fb fc : FE} {o : Opd} {ρ : Ev} : kCh g g' fb fc (some (o, ρ)) = kCh2 g g' fc o (fb ρ) := (rfl)
theorem kCh2_s {g g' : D → D → Option Opd} {fc : FE} {o o2 : Opd} {ρ : Ev} : kCh2 g g' fc o (some (o2, ρ)) = kCh3 g g' fc o2 ρ (der ρ o) := (rfl)
theorem kCh3_s {g g' : D → D → Option Opd} {fc : FE} {o2 : Opd} {ρ : Ev} {x : D} : kCh3 g g' fc o2 ρ (some x) = kCh4 g g' fc o2 x ρ (der ρ o2) := (rfl)
theorem kCh4_s {g g' : D → D → Option Opd} {fc : FE} {o2 : Opd} {ρ : Ev} {x y : D} : kCh4 g g' fc o2 x ρ (some y) = kCh5 g' fc o2 ρ (g x y) := (rfl)
theorem kCh5_t {g' : D → D → Option Opd} {fc : FE} {o2 : Opd} {ρ : Ev} : kCh5 g' fc o2 ρ (some (.d (.bl true))) = kBin2 g' o2 (fc ρ) := (rfl)
theorem kCh5_f {g' : D → D → Option Opd} {fc : FE} {o2 : Opd} {ρ : Ev} : kCh5 g' fc o2 ρ (some (.d (.bl false))) = some (.d (.bl false), ρ) := (rfl)
-- arguments, displays
def kC1 (g : FA) (x : Option (Opd × Ev)) : Option (List Opd × Ev) := x.bind fun p => (g p.2).bind fun q => some (p.1 :: q.1, q.2)
def kC2 (o : Opd) (x : Option (List Opd × Ev)) : Option (List Opd × Ev) := x.bind fun q => some (o :: q.1, q.2)
theorem ev_nil {ρ : Ev} : aNil ρ = some ([], ρ) := (rfl)
theorem ev_cons {f : FE} {g : FA} {ρ : Ev} : aCons f g ρ = kC1 g (f ρ) := (rfl)
theorem kC1_s {g : FA} {o : Opd} {ρ : Ev} : kC1 g (some (o, ρ)) = kC2 o (g ρ) := (rfl)
theorem kC2_s {o : Opd} {os : List Opd} {ρ : Ev} : kC2 o (some (os, ρ)) = some (o :: os, ρ) := (rfl)
def kRv (x : Option (List Opd × Ev)) : Option (List Opd × Ev) := x.bind fun p => some (p.1.reverse, p.2)
theorem ev_rev {fa : FA} {ρ : Ev} : aRev fa ρ = kRv (fa ρ) := (rfl)
theorem kRv_s {os : List Opd} {ρ : Ev} : kRv (some (os, ρ)) = some (os.reverse, ρ) := (rfl)
def kX1 (os : List Opd) (x : Option (D × Ev)) : Option (List D × Ev) := x.bind fun p => (escs os p.2).bind fun q => some (p.1 :: q.1, q.2)
def kX2 (d : D) (x : Option (List D × Ev)) : Option (List D × Ev) := x.bind fun q => some (d :: q.1, q.2)
theorem escs_nil {ρ : Ev} : escs [] ρ = some ([], ρ) := (rfl)
theorem escs_cons {o : Opd} {os : List Opd} {ρ : Ev} : escs (o :: os) ρ = kX1 os (esc o ρ) := (rfl)
theorem kX1_s {os : List Opd} {d : D} {ρ : Ev} : kX1 os (some (d, ρ)) = kX2 d (escs os ρ) := (rfl)
theorem kX2_s {d : D} {ds : List D} {ρ : Ev} : kX2 d (some (ds, ρ)) = some (d :: ds, ρ) := (rfl)
theorem esc_d {x : D} {ρ : Ev} : esc (.d x) ρ = some (x, ρ) := (rfl)
theorem esc_nw {x : List D} {ρ : Ev} : esc (.nw x) ρ = some (.lst x, ρ) := (rfl)
theorem esc_sl {i : Nat} {ρ : Ev} : esc (.sl i) ρ = escS i ρ ρ[i]? := (rfl)
theorem escS_own {i : Nat} {ρ : Ev} {ds : List D} : escS i ρ (some (.own ds)) = some (.lst ds, ρ.set i (.val (.lst ds))) := (rfl)
theorem escS_val {i : Nat} {ρ : Ev} {d : D} : escS i ρ (some (.val d)) = some (d, ρ) := (rfl)
def kT1 (x : Option (List Opd × Ev)) : Option (Opd × Ev) := x.bind fun p => (escs p.1 p.2).bind fun q => if q.1.length ≤ 16777216 then some (.d (.tup q.1), q.2) else none
def kT2 (x : Option (List D × Ev)) : Option (Opd × Ev) := x.bind fun q => if q.1.length ≤ 16777216 then some (.d (.tup q.1), q.2) else none
theorem ev_tup {g : FA} {ρ : Ev} : fTup g ρ = kT1 (g ρ) := (rfl)
theorem kT1_s {os : List Opd} {ρ : Ev} : kT1 (some (os, ρ)) = kT2 (escs os ρ) := (rfl)
theorem kT2_s {ds : List D} {ρ : Ev} (h : ds.length ≤ 16777216) : kT2 (some (ds, ρ)) = some (.d (.tup ds), ρ) := if_pos h
def kL1 (x : Option (List Opd × Ev)) : Option (Opd × Ev) := x.bind fun p => (escs p.1 p.2).bind fun q => if q.1.length ≤ 16777216 then some (.nw q.1, q.2) else none
def kL2 (x : Option (List D × Ev)) : Option (Opd × Ev) := x.bind fun q => if q.1.length ≤ 16777216 then some (.nw q.1, q.2) else none
theorem ev_lst {g : FA} {ρ : Ev} : fLst g ρ = kL1 (g ρ) := (rfl)
theorem kL1_s {os : List Opd} {ρ : Ev} : kL1 (some (os, ρ)) = kL2 (escs os ρ) := (rfl)
theorem kL2_s {ds : List D} {ρ : Ev} (h : ds.length ≤ 16777216) : kL2 (some (ds, ρ)) = some (.nw ds, ρ) := if_pos h
-- slices
def kPI (x : Option (Opd × Ev)) : Option (Option Int × Ev) := x.bind asI
theorem ev_pno {ρ : Ev} : pNo ρ = some (none, ρ) := (rfl)
theorem ev_pzero {ρ : Ev} : pZero ρ = some (some 0, ρ) := (rfl)
theorem ev_pint {f : FE} {ρ : Ev} : pInt f ρ = kPI (f ρ) := (rfl)
theorem kPI_s {i : Int} {ρ : Ev} : kPI (some (.d (.int i), ρ)) = some (some i, ρ) := (rfl)
def kS1 (fl fh : FP) (x : Option (Opd × Ev)) : Option (Opd × Ev) := x.bind fun p => (fl p.2).bind fun l => (fh l.2).bind fun h => (der h.2 p.1).bind fun x => (gSl x l.1 h.1).bind fun z => some (z, h.2)
def kS2 (fh : FP) (o : Opd) (x : Option (Option Int × Ev)) : Option (Opd × Ev) := x.bind fun l => (fh l.2).bind fun h => (der h.2 o).bind fun x => (gSl x l.1 h.1).bind fun z => some (z, h.2)
def kS3 (o : Opd) (l : Option Int) (x : Option (Option Int × Ev)) : Option (Opd × Ev) := x.bind fun h => (der h.2 o).bind fun x => (gSl x l h.1).bind fun z => some (z, h.2)
def kS4 (l h : Option Int) (ρ : Ev) (x : Option D) : Option (Opd × Ev) := x.bind fun x => (gSl x l h).bind fun z => some (z, ρ)
theorem ev_sl {f : FE} {fl fh : FP} {ρ : Ev} : fSl f fl fh ρ = kS1 fl fh (f ρ) := (rfl)
theorem kS1_s {fl fh : FP} {o : Opd} {ρ : Ev} : kS1 fl fh (some (o, ρ)) = kS2 fh o (fl ρ) := (rfl)
theorem kS2_s {fh : FP} {o : Opd} {l : Option Int} {ρ : Ev} : kS2 fh o (some (l, ρ)) = kS3 o l (fh ρ) := (rfl)
theorem kS3_s {o : Opd} {l h : Option Int} {ρ : Ev} : kS3 o l (some (h, ρ)) = kS4 l h ρ (der ρ o) := (rfl)
theorem kS4_s {l h : Option Int} {ρ : Ev} {x : D} : kS4 l h ρ (some x) = kRet ρ (gSl x l h) := (rfl)
def kR1 (g : FP) (x : Option (Option Int × Ev)) : Option (Opd × Ev) := x.bind fun p => (g p.2).bind fun q => p.1.bind fun i => q.1.bind fun j => if -(2 ^ 62) ≤ i ∧ i < 2 ^ 62 ∧ -(2 ^ 62) ≤ j ∧ j < 2 ^ 62 ∧ (j - i).toNat ≤ 16777216 then some (.nw (rgD i (j - i).toNat), q.2) else none
def kR2 (i : Option Int) (x : Option (Option Int × Ev)) : Option (Opd × Ev) := x.bind fun q => i.bind fun i => q.1.bind fun j => if -(2 ^ 62) ≤ i ∧ i < 2 ^ 62 ∧ -(2 ^ 62) ≤ j ∧ j < 2 ^ 62 ∧ (j - i).toNat ≤ 16777216 then some (.nw (rgD i (j - i).toNat), q.2) else none
theorem ev_lrg {f g : FP} {ρ : Ev} : fLRg f g ρ = kR1 g (f ρ) := (rfl)
theorem kR1_s {g : FP} {i : Option Int} {ρ : Ev} : kR1 g (some (i, ρ)) = kR2 i (g ρ) := (rfl)
theorem kR2_s {i j : Int} {ρ : Ev} (h : -(2 ^ 62) ≤ i ∧ i < 2 ^ 62 ∧ -(2 ^ 62) ≤ j ∧ j < 2 ^ 62 ∧ (j - i).toNat ≤ 16777216) : kR2 (some i) (some (some j, ρ)) = some (.nw (rgD i (j - i).toNat), ρ) := if_pos h
-- calls
def kF1 (φ : F0) (x : Option (List Opd × Ev)) : Option (Opd × Ev) := x.bind fun p => (ders p.2 p.1).bind fun ds => (φ ds).bind fun r => if p.1.all notSl = true ∨ noLr r = true then some (r.o, p.2) else none
def kF2 (φ : F0) (os : List Opd) (ρ : Ev) (x : Option (List D)) : Option (Opd × Ev) := x.bind fun ds => (φ ds).bind fun r => if os.all notSl = true ∨ noLr r = true then some (r.o, ρ) else none
def kF3 (os : List Opd) (ρ : Ev) (x : Option Rt) : Option (Opd × Ev) := x.bind fun r => if os.all notSl = true ∨ noLr r = true then some (r.o, ρ) else none
theorem ev_call {φ : F0} {fa : FA} {ρ : Ev} : fCall φ fa ρ = kF1 φ (fa ρ) := (rfl)
theorem kF1_s {φ : F0} {os : List Opd} {ρ : Ev} : kF1 φ (some (os, ρ)) = kF2 φ os ρ (ders ρ os) := (rfl)
theorem kF2_s {φ : F0} {os : List Opd} {ρ : Ev} {ds : List D} : kF2 φ os ρ (some ds) = kF3 os ρ (φ ds) := (rfl)
theorem kF3_s {os : List Opd} {ρ : Ev} {r : Rt} (h : (os.all notSl || noLr r) = true) : kF3 os ρ (some r) = some (r.o, ρ) := if_pos (by simpa using h)
theorem ders_nil {ρ : Ev} : ders ρ [] = some [] := (rfl)
def kD1 (os : List Opd) (ρ : Ev) (x : Option D) : Option (List D) := x.bind fun x => (ders ρ os).bind fun xs => some (x :: xs)
def kD2 (x : D) (xs : Option (List D)) : Option (List D) := xs.bind fun xs => some (x :: xs)
theorem ders_cons {o : Opd} {os : List Opd} {ρ : Ev} : ders ρ (o :: os) = kD1 os ρ (der ρ o) := (rfl)
theorem kD1_s {os : List Opd} {ρ : Ev} {x : D} : kD1 os ρ (some x) = kD2 x (ders ρ os) := (rfl)
theorem kD2_s {x : D} {xs : List D} : kD2 x (some xs) = some (x :: xs) := (rfl)
theorem rt_d {x : D} : Rt.o (.d x) = .d x := (rfl)
theorem rt_nw {x : List D} : Rt.o (.nw x) = .nw x := (rfl)
def kG1 (φ : F1) (x : Option (List Opd × Ev)) : Option (Opd × Ev) := x.bind fun p => (slotOf p.1).bind fun q => (ownD p.2[q.1]?).bind fun ds0 => (ders p.2 q.2).bind fun ds =>
  if q.2.all notSl = true then (φ (.lst ds0 :: ds)).bind fun r => some (r.1.o, p.2.set q.1 (putS p.2[q.1]? r.2)) else none
def kG2 (φ : F1) (i : Nat) (os : List Opd) (ρ : Ev) (x : Option (List D)) : Option (Opd × Ev) := x.bind fun ds0 => (ders ρ os).bind fun ds => if os.all notSl = true then (φ (.lst ds0 :: ds)).bind fun r => some (r.1.o, ρ.set i (putS ρ[i]? r.2)) else none
def kG3 (φ : F1) (i : Nat) (os : List Opd) (ρ : Ev) (ds0 : List D) (x : Option (List D)) : Option (Opd × Ev) := x.bind fun ds => if os.all notSl = true then (φ (.lst ds0 :: ds)).bind fun r => some (r.1.o, ρ.set i (putS ρ[i]? r.2)) else none
def kG4 (i : Nat) (ρ : Ev) (x : Option (Rt × List D)) : Option (Opd × Ev) := x.bind fun r => some (r.1.o, ρ.set i (putS ρ[i]? r.2))
theorem ev_call1 {φ : F1} {fa : FA} {ρ : Ev} : fCall1 φ fa ρ = kG1 φ (fa ρ) := (rfl)
theorem kG1_s {φ : F1} {i : Nat} {os : List Opd} {ρ : Ev} : kG1 φ (some (.sl i :: os, ρ)) = kG2 φ i os ρ (ownD ρ[i]?) := (rfl)
theorem kG2_s {φ : F1} {i : Nat} {os : List Opd} {ρ : Ev} {ds0 : List D} : kG2 φ i os ρ (some ds0) = kG3 φ i os ρ ds0 (ders ρ os) := (rfl)
theorem kG3_s {φ : F1} {i : Nat} {os : List Opd} {ρ : Ev} {ds0 ds : List D} (h : os.all notSl = true) : kG3 φ i os ρ ds0 (some ds) = kG4 i ρ (φ (.lst ds0 :: ds)) := if_pos h
theorem kG4_s {i : Nat} {ρ : Ev} {r : Rt} {out : List D} : kG4 i ρ (some (r, out)) = some (r.o, ρ.set i (putS ρ[i]? out)) := (rfl)
theorem ow_own {ds : List D} : ownD (some (.own ds)) = some ds := (rfl)
theorem ow_bor {ds : List D} : ownD (some (.bor ds)) = some ds := (rfl)
theorem put_own {ds es : List D} : putS (some (.own ds)) es = .own es := (rfl)
theorem put_bor {ds es : List D} : putS (some (.bor ds)) es = .bor es := (rfl)
-- what is walked
def kI1 (x : Option (Opd × Ev)) : Option (List D × Ev) := x.bind fun p => (esc p.1 p.2).bind fun q => (items q.1).bind fun ds => some (ds, q.2)
def kI2 (x : Option (D × Ev)) : Option (List D × Ev) := x.bind fun q => (items q.1).bind fun ds => some (ds, q.2)
theorem ev_iseq {f : FE} {ρ : Ev} : iSeq f ρ = kI1 (f ρ) := (rfl)
theorem kI1_s {o : Opd} {ρ : Ev} : kI1 (some (o, ρ)) = kI2 (esc o ρ) := (rfl)
theorem kI2_t {ds : List D} {ρ : Ev} : kI2 (some (.tup ds, ρ)) = some (ds, ρ) := (rfl)
theorem kI2_l {ds : List D} {ρ : Ev} : kI2 (some (.lst ds, ρ)) = some (ds, ρ) := (rfl)
theorem kI2_f {ds : List D} {ρ : Ev} : kI2 (some (.frl ds, ρ)) = some (ds, ρ) := (rfl)
def kN1 (x : Option (Option Int × Ev)) : Option (List D × Ev) := x.bind fun p => p.1.bind fun j => if -(2 ^ 62) ≤ j ∧ j < 2 ^ 62 then some (rgD 0 j.toNat, p.2) else none
theorem ev_irg1 {f : FP} {ρ : Ev} : iRg1 f ρ = kN1 (f ρ) := (rfl)
theorem kN1_s {j : Int} {ρ : Ev} (h : -(2 ^ 62) ≤ j ∧ j < 2 ^ 62) : kN1 (some (some j, ρ)) = some (rgD 0 j.toNat, ρ) := if_pos h
def kN2 (g : FP) (x : Option (Option Int × Ev)) : Option (List D × Ev) := x.bind fun p => (g p.2).bind fun q => p.1.bind fun i => q.1.bind fun j => if -(2 ^ 62) ≤ i ∧ i < 2 ^ 62 ∧ -(2 ^ 62) ≤ j ∧ j < 2 ^ 62 then some (rgD i (j - i).toNat, q.2) else none
def kN3 (i : Option Int) (x : Option (Option Int × Ev)) : Option (List D × Ev) := x.bind fun q => i.bind fun i => q.1.bind fun j => if -(2 ^ 62) ≤ i ∧ i < 2 ^ 62 ∧ -(2 ^ 62) ≤ j ∧ j < 2 ^ 62 then some (rgD i (j - i).toNat, q.2) else none
theorem ev_irg2 {f g : FP} {ρ : Ev} : iRg2 f g ρ = kN2 g (f ρ) := (rfl)
theorem kN2_s {g : FP} {i : Option Int} {ρ : Ev} : kN2 g (some (i, ρ)) = kN3 i (g ρ) := (rfl)
theorem kN3_s {i j : Int} {ρ : Ev} (h : -(2 ^ 62) ≤ i ∧ i < 2 ^ 62 ∧ -(2 ^ 62) ≤ j ∧ j < 2 ^ 62) : kN3 (some i) (some (some j, ρ)) = some (rgD i (j - i).toNat, ρ) := if_pos h
-- comprehensions
def kV1 (t : Tg) (ft : FT) (fe : FE) (vs : List Nat) (x : Option (List D × Ev)) : Option (Opd × Ev) := x.bind fun p => (lcD t ft fe vs p.1 (wipeE p.2 vs) []).bind fun q => some (.nw q.1, backE p.2 q.2 vs)
def kV2 (ρ : Ev) (vs : List Nat) (x : Option (List D × Ev)) : Option (Opd × Ev) := x.bind fun q => some (.nw q.1, backE ρ q.2 vs)
theorem ev_lc {fi : FI} {t : Tg} {ft : FT} {fe : FE} {vs : List Nat} {ρ : Ev} : fLc fi t ft fe vs ρ = kV1 t ft fe vs (fi ρ) := (rfl)
theorem kV1_s {t : Tg} {ft : FT} {fe : FE} {vs : List Nat} {ds : List D} {ρ : Ev} : kV1 t ft fe vs (some (ds, ρ)) = kV2 ρ vs (lcD t ft fe vs ds (wipeE ρ vs) []) := (rfl)
theorem kV2_s {ρ ρ2 : Ev} {vs : List Nat} {acc : List D} : kV2 ρ vs (some (acc, ρ2)) = some (.nw acc, backE ρ ρ2 vs) := (rfl)
-- statements
def kSeq (h : FS) (x : Option Out) : Option Out := x.bind fun o => match o with
  | .nx ρ' => h ρ'
  | o => some o
theorem ev_seq {g h : FS} {ρ : Ev} : sSeq g h ρ = kSeq h (g ρ) := (rfl)
theorem kSeq_n {h : FS} {ρ : Ev} : kSeq h (some (.nx ρ)) = h ρ := (rfl)
theorem kSeq_r {h : FS} {o : Opd} {ρ : Ev} : kSeq h (some (.rt o ρ)) = some (.rt o ρ) := (rfl)
theorem kSeq_b {h : FS} {ρ : Ev} : kSeq h (some (.bk ρ)) = some (.bk ρ) := (rfl)
theorem kSeq_c {h : FS} {ρ : Ev} : kSeq h (some (.ct ρ)) = some (.ct ρ) := (rfl)
theorem ev_skip {ρ : Ev} : sSkip ρ = some (.nx ρ) := (rfl)
theorem ev_break {ρ : Ev} : sBreak ρ = some (.bk ρ) := (rfl)
theorem ev_cont {ρ : Ev} : sCont ρ = some (.ct ρ) := (rfl)
theorem ev_retN {ρ : Ev} : sRetN ρ = some (.rt (.d .non) ρ) := (rfl)
def kRt (x : Option (Opd × Ev)) : Option Out := x.bind fun p => some (.rt p.1 p.2)
theorem ev_ret {f : FE} {ρ : Ev} : sRet f ρ = kRt (f ρ) := (rfl)
theorem kRt_s {o : Opd} {ρ : Ev} : kRt (some (o, ρ)) = some (.rt o ρ) := (rfl)
def kIf (g h : FS) (x : Option (Bool × Ev)) : Option Out := x.bind fun p => if p.1 then g p.2 else h p.2
theorem ev_sif {ft : FT} {g h : FS} {ρ : Ev} : sIf ft g h ρ = kIf g h (ft ρ) := (rfl)
theorem kIf_t {g h : FS} {ρ : Ev} : kIf g h (some (true, ρ)) = g ρ := (rfl)
theorem kIf_f {g h : FS} {ρ : Ev} : kIf g h (some (false, ρ)) = h ρ := (rfl)
def kDr (x : Option (Opd × Ev)) : Option Out := x.bind fun p => some (.nx p.2)
theorem ev_drop {f : FE} {ρ : Ev} : sDrop f ρ = kDr (f ρ) := (rfl)
theorem kDr_s {o : Opd} {ρ : Ev} : kDr (some (o, ρ)) = some (.nx ρ) := (rfl)
def kSt (i : Nat) (x : Option (Opd × Ev)) : Option Out := x.bind (stV i)
def kSt2 (i : Nat) (x : Option (D × Ev)) : Option Out := x.bind fun q => some (.nx (q.2.set i (.val q.1)))
theorem ev_set {i : Nat} {f : FE} {ρ : Ev} : sSet i f ρ = kSt i (f ρ) := (rfl)
theorem kSt_s {i : Nat} {o : Opd} {ρ : Ev} : kSt i (some (o, ρ)) = kSt2 i (esc o ρ) := (rfl)
theorem kSt2_s {i : Nat} {d : D} {ρ : Ev} : kSt2 i (some (d, ρ)) = some (.nx (ρ.set i (.val d))) := (rfl)
def kOw (i : Nat) (x : Option (Opd × Ev)) : Option Out := x.bind (stO i)
theorem ev_own {i : Nat} {f : FE} {ρ : Ev} : sOwn i f ρ = kOw i (f ρ) := (rfl)
theorem kOw_s {i : Nat} {ds : List D} {ρ : Ev} : kOw i (some (.nw ds, ρ)) = some (.nx (ρ.set i (.own ds))) := (rfl)
def kUn (t : Tg) (x : Option (Opd × Ev)) : Option Out := x.bind (stT t)
def kUn2 (t : Tg) (x : Option (D × Ev)) : Option Out := x.bind fun q => (bindT t q.1 q.2).bind fun ρ => some (.nx ρ)
def kNx (x : Option Ev) : Option Out := x.bind fun ρ => some (.nx ρ)
theorem ev_unp {t : Tg} {f : FE} {ρ : Ev} : sUnp t f ρ = kUn t (f ρ) := (rfl)
theorem kUn_s {t : Tg} {o : Opd} {ρ : Ev} : kUn t (some (o, ρ)) = kUn2 t (esc o ρ) := (rfl)
theorem kUn2_s {t : Tg} {d : D} {ρ : Ev} : kUn2 t (some (d, ρ)) = kNx (bindT t d ρ) := (rfl)
theorem kNx_s {ρ : Ev} : kNx (some ρ) = some (.nx ρ) := (rfl)
theorem bt_nm {i : Nat} {d : D} {ρ : Ev} : bindT (.nm i) d ρ = some (ρ.set i (.val d)) := (rfl)
theorem bt_tp {is : List Nat} {ds : List D} {ρ : Ev} : bindT (.tp is) (.tup ds) ρ = setAll is ds ρ := (rfl)
theorem sa_nil {ρ : Ev} : setAll [] [] ρ = some ρ := (rfl)
theorem sa_cons {i : Nat} {is : List Nat} {d : D} {ds : List D} {ρ : Ev} : setAll (i :: is) (d :: ds) ρ = setAll is ds (ρ.set i (.val d)) := (rfl)
def kPa (is : List (Nat × Bool)) (x : Option (List Opd × Ev)) : Option Out := x.bind fun p => (stP is p.1 p.2).bind fun ρ' => some (.nx ρ')
theorem ev_par {is : List (Nat × Bool)} {fa : FA} {ρ : Ev} : sPar is fa ρ = kPa is (fa ρ) := (rfl)
theorem kPa_s {is : List (Nat × Bool)} {os : List Opd} {ρ : Ev} : kPa is (some (os, ρ)) = kNx (stP is os ρ) := (rfl)
theorem sp_nil {ρ : Ev} : stP [] [] ρ = some ρ := (rfl)
theorem sp_own {i : Nat} {is : List (Nat × Bool)} {ds : List D} {os : List Opd} {ρ : Ev} : stP ((i, true) :: is) (.nw ds :: os) ρ = stP is os (ρ.set i (.own ds)) := (rfl)
theorem sp_val {i : Nat} {is : List (Nat × Bool)} {d : D} {os : List Opd} {ρ : Ev} : stP ((i, false) :: is) (.d d :: os) ρ = stP is os (ρ.set i (.val d)) := (rfl)
def kAp (i : Nat) (f : FE) (ρ : Ev) (x : Option (List D)) : Option Out := x.bind fun _ => (f ρ).bind fun p => (esc p.1 p.2).bind (apD i)
def kAp2 (i : Nat) (x : Option (Opd × Ev)) : Option Out := x.bind fun p => (esc p.1 p.2).bind (apD i)
def kAp3 (i : Nat) (x : Option (D × Ev)) : Option Out := x.bind (apD i)
def kAp4 (i : Nat) (d : D) (ρ : Ev) (x : Option (List D)) : Option Out := x.bind fun ds => if ds.length < 16777216 then some (.nx (ρ.set i (putS ρ[i]? (ds ++ [d])))) else none
theorem ev_app {i : Nat} {f : FE} {ρ : Ev} : sApp i f ρ = kAp i f ρ (ownD ρ[i]?) := (rfl)
theorem kAp_s {i : Nat} {f : FE} {ρ : Ev} {ds : List D} : kAp i f ρ (some ds) = kAp2 i (f ρ) := (rfl)
theorem kAp2_s {i : Nat} {o : Opd} {ρ : Ev} : kAp2 i (some (o, ρ)) = kAp3 i (esc o ρ) := (rfl)
theorem kAp3_s {i : Nat} {d : D} {ρ : Ev} : kAp3 i (some (d, ρ)) = kAp4 i d ρ (ownD ρ[i]?) := (rfl)
theorem kAp4_s {i : Nat} {d : D} {ρ : Ev} {ds : List D} (h : ds.length < 16777216) : kAp4 i d ρ (some ds) = some (.nx (ρ.set i (putS ρ[i]? (ds ++ [d])))) := if_pos h
def kSi (i : Nat) (fi : FP) (x : Option (Opd × Ev)) : Option Out := x.bind fun p => (esc p.1 p.2).bind fun q => (ownD q.2[i]?).bind fun _ => (fi q.2).bind (stI i q.1)
def kSi2 (i : Nat) (fi : FP) (x : Option (D × Ev)) : Option Out := x.bind fun q => (ownD q.2[i]?).bind fun _ => (fi q.2).bind (stI i q.1)
def kSi3 (i : Nat) (fi : FP) (d : D) (ρ : Ev) (x : Option (List D)) : Option Out := x.bind fun _ => (fi ρ).bind (stI i d)
def kSi4 (i : Nat) (d : D) (x : Option (Option Int × Ev)) : Option Out := x.bind (stI i d)
def kSi5 (i : Nat) (d : D) (k : Int) (ρ : Ev) (x : Option (List D)) : Option Out := x.bind fun ds => (ixN ds.length k).bind fun j => some (.nx (ρ.set i (putS ρ[i]? (ds.set j d))))
def kSi6 (i : Nat) (d : D) (ρ : Ev) (ds : List D) (x : Option Nat) : Option Out := x.bind fun j => some (.nx (ρ.set i (putS ρ[i]? (ds.set j d))))
theorem ev_sti {i : Nat} {fi : FP} {f : FE} {ρ : Ev} : sStI i fi f ρ = kSi i fi (f ρ) := (rfl)
theorem kSi_s {i : Nat} {fi : FP} {o : Opd} {ρ : Ev} : kSi i fi (some (o, ρ)) = kSi2 i fi (esc o ρ) := (rfl)
theorem kSi2_s {i : Nat} {fi : FP} {d : D} {ρ : Ev} : kSi2 i fi (some (d, ρ)) = kSi3 i fi d ρ (ownD ρ[i]?) := (rfl)
theorem kSi3_s {i : Nat} {fi : FP} {d : D} {ρ : Ev} {ds : List D} : kSi3 i fi d ρ (some ds) = kSi4 i d (fi ρ) := (rfl)
theorem kSi4_s {i : Nat} {d : D} {k : Int} {ρ : Ev} : kSi4 i d (some (some k, ρ)) = kSi5 i d k ρ (ownD ρ[i]?) := (rfl)
theorem kSi5_s {i : Nat} {d : D} {k : Int} {ρ : Ev} {ds : List D} : kSi5 i d k ρ (some ds) = kSi6 i d ρ ds (ixN ds.length k) := (rfl)
theorem kSi6_s {i : Nat} {d : D} {ρ : Ev} {ds : List D} {j : Nat} : kSi6 i d ρ ds (some j) = some (.nx (ρ.set i (putS ρ[i]? (ds.set j d)))) := (rfl)
def kAg (i : Nat) (op : Int → Int → Int) (f : FE) (ρ : Ev) (x : Option D) : Option Out := x.bind fun x => (pInt f ρ).bind (agI i op x)
def kAg2 (i : Nat) (op : Int → Int → Int) (x : D) (y : Option (Option Int × Ev)) : Option Out := y.bind (agI i op x)
theorem ev_aug {i : Nat} {op : Int → Int → Int} {f : FE} {ρ : Ev} : sAug i op f ρ = kAg i op f ρ (valD ρ[i]?) := (rfl)
theorem kAg_s {i : Nat} {op : Int → Int → Int} {f : FE} {ρ : Ev} {x : D} : kAg i op f ρ (some x) = kAg2 i op x (pInt f ρ) := (rfl)
theorem kAg2_s {i : Nat} {op : Int → Int → Int} {a j : Int} {ρ : Ev} : kAg2 i op (.int a) (some (some j, ρ)) = some (.nx (ρ.set i (.val (.int (op a j))))) := (rfl)
theorem val_s {d : D} : valD (some (.val d)) = some d := (rfl)
def kFo (t : Tg) (g : FS) (x : Option (List D × Ev)) : Option Out := x.bind fun p => loopD t g p.1 p.2
theorem ev_for {fi : FI} {t : Tg} {g : FS} {ρ : Ev} : sFor fi t g ρ = kFo t g (fi ρ) := (rfl)
theorem kFo_s {t : Tg} {g : FS} {ds : List D} {ρ : Ev} : kFo t g (some (ds, ρ)) = loopD t g ds ρ := (rfl)
-- a turn of a loop
def kLp (t : Tg) (g : FS) (ds : List D) (x : Option Ev) : Option Out := x.bind fun ρ1 => (g ρ1).bind fun o => match o with
    | .nx ρ2 => loopD t g ds ρ2
    | .ct ρ2 => loopD t g ds ρ2
    | .bk ρ2 => some (.nx ρ2)
    | .rt o ρ2 => some (.rt o ρ2)
def kLp2 (t : Tg) (g : FS) (ds : List D) (x : Option Out) : Option Out := x.bind fun o => match o with
    | .nx ρ2 => loopD t g ds ρ2
    | .ct ρ2 => loopD t g ds ρ2
    | .bk ρ2 => some (.nx ρ2)
    | .rt o ρ2 => some (.rt o ρ2)
theorem loop_nil {t : Tg} {g : FS} {ρ : Ev} : loopD t g [] ρ = some (.nx ρ) := (rfl)
theorem loop_cons {t : Tg} {g : FS} {d : D} {ds : List D} {ρ : Ev} : loopD t g (d :: ds) ρ = kLp t g ds (bindT t d ρ) := (rfl)
theorem kLp_s {t : Tg} {g : FS} {ds : List D} {ρ : Ev} : kLp t g ds (some ρ) = kLp2 t g ds (g ρ) := (rfl)
theorem kLp_n {t : Tg} {g : FS} {ds : List D} {ρ : Ev} : kLp2 t g ds (some (.nx ρ)) = loopD t g ds ρ := (rfl)
theorem kLp_c {t : Tg} {g : FS} {ds : List D} {ρ : Ev} : kLp2 t g ds (some (.ct ρ)) = loopD t g ds ρ := (rfl)
theorem kLp_b {t : Tg} {g : FS} {ds : List D} {ρ : Ev} : kLp2 t g ds (some (.bk ρ)) = some (.nx ρ) := (rfl)
theorem kLp_r {t : Tg} {g : FS} {ds : List D} {o : Opd} {ρ : Ev} : kLp2 t g ds (some (.rt o ρ)) = some (.rt o ρ) := (rfl)
theorem ev_while {n : Ev → Nat} {ft : FT} {g : FS} {ρ : Ev} : sWhile n ft g ρ = whileD ft g (n ρ) ρ := (rfl)
def kWh (ft : FT) (g : FS) (n : Nat) (x : Option (Bool × Ev)) : Option Out := x.bind fun p => if p.1 then (g p.2).bind fun o => match o with
      | .nx ρ2 => whileD ft g n ρ2
      | .ct ρ2 => whileD ft g n ρ2
      | .bk ρ2 => some (.nx ρ2)
      | .rt o ρ2 => some (.rt o ρ2)
    else some (.nx p.2)
def kWh2 (ft : FT) (g : FS) (n : Nat) (x : Option Out) : Option Out := x.bind fun o => match o with
      | .nx ρ2 => whileD ft g n ρ2
      | .ct ρ2 => whileD ft g n ρ2
      | .bk ρ2 => some (.nx ρ2)
      | .rt o ρ2 => some (.rt o ρ2)
theorem while_s {ft : FT} {g : FS} {n : Nat} {ρ : Ev} : whileD ft g (n + 1) ρ = kWh ft g n (ft ρ) := (rfl)
theorem kWh_f {ft : FT} {g : FS} {n : Nat} {ρ : Ev} : kWh ft g n (some (false, ρ)) = some (.nx ρ) := (rfl)
theorem kWh_t {ft : FT} {g : FS} {n : Nat} {ρ : Ev} : kWh ft g n (some (true, ρ)) = kWh2 ft g n (g ρ) := (rfl)
theorem kWh_n {ft : FT} {g : FS} {n : Nat} {ρ : Ev} : kWh2 ft g n (some (.nx ρ)) = whileD ft g n ρ := (rfl)
theorem kWh_c {ft : FT} {g : FS} {n : Nat} {ρ : Ev} : kWh2 ft g n (some (.ct ρ)) = whileD ft g n ρ := (rfl)
theorem kWh_b {ft : FT} {g : FS} {n : Nat} {ρ : Ev} : kWh2 ft g n (some (.bk ρ)) = some (.nx ρ) := (rfl)
theorem kWh_r {ft : FT} {g : FS} {n : Nat} {o : Opd} {ρ : Ev} : kWh2 ft g n (some (.rt o ρ)) = some (.rt o ρ) := (rfl)
-- a turn of a comprehension
def kLc1 (t : Tg) (ft : FT) (fe : FE) (vs : List Nat) (ds acc : List D) (x : Option Ev) : Option (List D × Ev) := x.bind fun ρ1 => (ft ρ1).bind fun p => if p.1 then (fe p.2).bind fun q => (esc q.1 q.2).bind fun r => if acc.length < 16777216 then lcD t ft fe vs ds (wipeE r.2 vs) (acc ++ [r.1]) else none
      else lcD t ft fe vs ds (wipeE p.2 vs) acc
def kLc2 (t : Tg) (ft : FT) (fe : FE) (vs : List Nat) (ds acc : List D) (x : Option (Bool × Ev)) : Option (List D × Ev) := x.bind fun p => if p.1 then (fe p.2).bind fun q => (esc q.1 q.2).bind fun r => if acc.length < 16777216 then lcD t ft fe vs ds (wipeE r.2 vs) (acc ++ [r.1]) else none
      else lcD t ft fe vs ds (wipeE p.2 vs) acc
def kLc3 (t : Tg) (ft : FT) (fe : FE) (vs : List Nat) (ds acc : List D) (x : Option (Opd × Ev)) : Option (List D × Ev) := x.bind fun q => (esc q.1 q.2).bind fun r => if acc.length < 16777216 then lcD t ft fe vs ds (wipeE r.2 vs) (acc ++ [r.1]) else none
def kLc4 (t : Tg) (ft : FT) (fe : FE) (vs : List Nat) (ds acc : List D) (x : Option (D × Ev)) : Option (List D × Ev) := x.bind fun r => if acc.length < 16777216 then lcD t ft fe vs ds (wipeE r.2 vs) (acc ++ [r.1]) else none
theorem lc_nil {t : Tg} {ft : FT} {fe : FE} {vs : List Nat} {acc : List D} {ρ : Ev} : lcD t ft fe vs [] ρ acc = some (acc, ρ) := (rfl)
theorem lc_cons {t : Tg} {ft : FT} {fe : FE} {vs : List Nat} {d : D} {ds acc : List D} {ρ : Ev} : lcD t ft fe vs (d :: ds) ρ acc = kLc1 t ft fe vs ds acc (bindT t d ρ) := (rfl)
theorem kLc1_s {t : Tg} {ft : FT} {fe : FE} {vs : List Nat} {ds acc : List D} {ρ : Ev} : kLc1 t ft fe vs ds acc (some ρ) = kLc2 t ft fe vs ds acc (ft ρ) := (rfl)
theorem kLc2_t {t : Tg} {ft : FT} {fe : FE} {vs : List Nat} {ds acc : List D} {ρ : Ev} : kLc2 t ft fe vs ds acc (some (true, ρ)) = kLc3 t ft fe vs ds acc (fe ρ) := (rfl)
theorem kLc2_f {t : Tg} {ft : FT} {fe : FE} {vs : List Nat} {ds acc : List D} {ρ : Ev} : kLc2 t ft fe vs ds acc (some (false, ρ)) = lcD t ft fe vs ds (wipeE ρ vs) acc := (rfl)
theorem kLc3_s {t : Tg} {ft : FT} {fe : FE} {vs : List Nat} {ds acc : List D} {o : Opd} {ρ : Ev} : kLc3 t ft fe vs ds acc (some (o, ρ)) = kLc4 t ft fe vs ds acc (esc o ρ) := (rfl)
theorem kLc4_s {t : Tg} {ft : FT} {fe : FE} {vs : List Nat} {ds acc : List D} {x : D} {ρ : Ev} (h : acc.length < 16777216) : kLc4 t ft fe vs ds acc (some (x, ρ)) = lcD t ft fe vs ds (wipeE ρ vs) (acc ++ [x]) := if_pos h
-- a def's end
def kE0 (x : Option Out) : Option Rt := x.bind fun out => match out with
  | .rt o ρ => rtOf o ρ
  | .nx _ => some (.d .non)
  | _ => none
theorem run0_k {N : Nat} {g : FS} {ds : List D} : run0 N g ds = kE0 (g (ds.map Sl.val ++ List.replicate (N - ds.length) Sl.un)) := (rfl)
theorem kE0_r {o : Opd} {ρ : Ev} : kE0 (some (.rt o ρ)) = rtOf o ρ := (rfl)
theorem kE0_n {ρ : Ev} : kE0 (some (.nx ρ)) = some (.d .non) := (rfl)
theorem rtOf_d {x : D} {ρ : Ev} : rtOf (.d x) ρ = some (.d x) := (rfl)
theorem rtOf_nw {x : List D} {ρ : Ev} : rtOf (.nw x) ρ = some (.nw x) := (rfl)
theorem rtOf_sl {i : Nat} {ρ : Ev} : rtOf (.sl i) ρ = rtS ρ[i]? := (rfl)
theorem rtS_own {ds : List D} : rtS (some (.own ds)) = some (.nw ds) := (rfl)
def kE1 (x : Option Out) : Option (Rt × List D) := x.bind fun out => match out with
    | .rt o ρ => (rtOf o ρ).bind fun r => (borD ρ[0]?).bind fun out => some (r, out)
    | .nx ρ => (borD ρ[0]?).bind fun out => some (.d .non, out)
    | _ => none
def kE2 (x : Option Rt) (y : Option (List D)) : Option (Rt × List D) := x.bind fun r => y.bind fun out => some (r, out)
theorem run1_k {N : Nat} {g : FS} {ds0 ds : List D} : run1 N g (.lst ds0 :: ds) = kE1 (g (Sl.bor ds0 :: ds.map Sl.val ++ List.replicate (N - (ds.length + 1)) Sl.un)) := (rfl)
theorem kE1_r {o : Opd} {ρ : Ev} : kE1 (some (.rt o ρ)) = kE2 (rtOf o ρ) (borD ρ[0]?) := (rfl)
theorem kE1_n {ρ : Ev} : kE1 (some (.nx ρ)) = kE2 (some (.d .non)) (borD ρ[0]?) := (rfl)
theorem kE2_s {r : Rt} {out : List D} : kE2 (some r) (some out) = some (r, out) := (rfl)
theorem bor_s {ds : List D} : borD (some (.bor ds)) = some ds := (rfl)
-- operators
theorem gAdd_i {i j : Int} : gAdd (.int i) (.int j) = some (.d (.int (i + j))) := (rfl)
theorem gAdd_l {x y : List D} (h : x.length + y.length ≤ 16777216) : gAdd (.lst x) (.lst y) = some (.nw (x ++ y)) := if_pos h
theorem gAdd_t {x y : List D} (h : x.length + y.length ≤ 16777216) : gAdd (.tup x) (.tup y) = some (.d (.tup (x ++ y))) := if_pos h
theorem gSub_i {i j : Int} : gSub (.int i) (.int j) = some (.d (.int (i - j))) := (rfl)
theorem gMul_i {i j : Int} (h : i.natAbs.log2 + j.natAbs.log2 < 1000000) : gMul (.int i) (.int j) = some (.d (.int (i * j))) := if_pos h
theorem gMod_i {i j : Int} (h : 0 < j) : gMod (.int i) (.int j) = some (.d (.int (i % j))) := if_pos h
theorem gDiv_i {i j : Int} (h : 0 < j ∧ j.natAbs.log2 < 9000) : gDiv (.int i) (.int j) = some (.d (.int (i / j))) := if_pos h
theorem gPow_i {i j : Int} (h : 0 ≤ j ∧ ((i.natAbs.log2 + 1 : Nat) : Int) * j ≤ 134217728) : gPow (.int i) (.int j) = some (.d (.int (i ^ j.toNat))) := if_pos h
theorem gEq_i {n : Bool} {i j : Int} : gEq n (.int i) (.int j) = some (.d (.bl (decide (i = j) != n))) := (rfl)
theorem gEq_s {n : Bool} {i j : Str} : gEq n (.str i) (.str j) = some (.d (.bl (decide (i = j) != n))) := (rfl)
theorem gEq_b {n : Bool} {i j : Bool} : gEq n (.bl i) (.bl j) = some (.d (.bl (decide (i = j) != n))) := (rfl)
theorem gCmp_i {p : Int → Int → Bool} {i j : Int} : gCmp p (.int i) (.int j) = some (.d (.bl (p i j))) := (rfl)
theorem gIs_n {n : Bool} {x : D} (h : noOp x = true) : gIs n x .non = some (.d (.bl (isNon x != n))) := if_pos h
theorem gInt_i {i : Int} : gInt (.int i) = some (.d (.int i)) := (rfl)
theorem gInt_b {b : Bool} : gInt (.bl b) = some (.d (.int (if b then 1 else 0))) := (rfl)
theorem gMax_i {i j : Int} : gMax (.int i) (.int j) = some (.d (.int (if j > i then j else i))) := (rfl)
theorem gMin_i {i j : Int} : gMin (.int i) (.int j) = some (.d (.int (if j < i then j else i))) := (rfl)
theorem gAbs_i {i : Int} : gAbs (.int i) = some (.d (.int (if i < 0 then -i else i))) := (rfl)
theorem gTup_t {ds : List D} : gTuple (.tup ds) = some (.d (.tup ds)) := (rfl)
theorem gTup_l {ds : List D} : gTuple (.lst ds) = some (.d (.tup ds)) := (rfl)
theorem gLen_t {ds : List D} : gLen (.tup ds) = some (.d (.int ds.length)) := (rfl)
theorem gLen_l {ds : List D} : gLen (.lst ds) = some (.d (.int ds.length)) := (rfl)
theorem gLen_f {ds : List D} : gLen (.frl ds) = some (.d (.int ds.length)) := (rfl)
def kIx (x : Option D) : Option Opd := x.bind fun d => some (.d d)
theorem gIx_t {ds : List D} {i : Int} : gIx (.tup ds) (.int i) = kIx (atI ds i) := (rfl)
theorem gIx_l {ds : List D} {i : Int} : gIx (.lst ds) (.int i) = kIx (atI ds i) := (rfl)
theorem gIx_f {ds : List D} {i : Int} : gIx (.frl ds) (.int i) = kIx (atI ds i) := (rfl)
theorem kIx_s {d : D} : kIx (some d) = some (.d d) := (rfl)
theorem at_cast {α : Type} {xs : List α} {k : Nat} : atI xs (k : Int) = xs[k]? := by
  cases e : xs[k]? with
  | some v => exact atI_nat e
  | none =>
    have h := List.getElem?_eq_none_iff.mp e
    unfold atI ixN
    rw [if_pos (by omega), if_neg (by omega)]; rfl
theorem at_0 {α : Type} {xs : List α} : atI xs 0 = xs[0]? := at_cast (k := 0)
theorem at_1 {α : Type} {xs : List α} : atI xs 1 = xs[1]? := at_cast (k := 1)
theorem at_2 {α : Type} {xs : List α} : atI xs 2 = xs[2]? := at_cast (k := 2)
theorem at_3 {α : Type} {xs : List α} : atI xs 3 = xs[3]? := at_cast (k := 3)
theorem at_4 {α : Type} {xs : List α} : atI xs 4 = xs[4]? := at_cast (k := 4)
theorem at_5 {α : Type} {xs : List α} : atI xs 5 = xs[5]? := at_cast (k := 5)
theorem gSl_t {ds : List D} {l h : Option Int} : gSl (.tup ds) l h = some (.d (.tup (cutD ds l h))) := (rfl)
theorem gSl_l {ds : List D} {l h : Option Int} : gSl (.lst ds) l h = some (.nw (cutD ds l h)) := (rfl)
-- a def's reading as its own mirror
def phi0 (n N : Nat) (g : FS) : F0 := fun ds => if ds.length = n then run0 N g ds else none
def phi1 (n N : Nat) (g : FS) : F1 := fun ds => if ds.length = n then run1 N g ds else none
theorem phi_run {n N : Nat} {g : FS} {ds : List D} {r : Rt} (h : phi0 n N g ds = some r) : ds.length = n ∧ run0 N g ds = some r := by
  unfold phi0 at h
  split at h
  · exact ⟨by assumption, h⟩
  · cases h
theorem phi_run1 {n N : Nat} {g : FS} {ds : List D} {r : Rt × List D} (h : phi1 n N g ds = some r) : ds.length = n ∧ run1 N g ds = some r := by
  unfold phi1 at h
  split at h
  · exact ⟨by assumption, h⟩
  · cases h
theorem phi0_s {n N : Nat} {g : FS} {ds : List D} (h : ds.length = n) : phi0 n N g ds = run0 N g ds := if_pos h
theorem phi1_s {n N : Nat} {g : FS} {ds : List D} (h : ds.length = n) : phi1 n N g ds = run1 N g ds := if_pos h
end Dv

set_option Elab.async false
set_option linter.all false
set_option maxRecDepth 100000
set_option maxHeartbeats 4000000
/-! a table of texts by texts at the top, asked at a text -/
namespace Dv
open PySem PySem.Spec PyProof.Rows L2
variable {X : Cx} {K : PySem.W.Frag}
def kdL : List (Str × Str) → Str → Option Str
  | [], _ => none
  | p :: r, z => if p.1 = z then some p.2 else kdL r z
def kdS (tbl : List (Str × Str)) (ρ : Ev) : D → Option (Opd × Ev)
  | .str z => (kdL tbl z).bind fun v => some (.d (.str v), ρ)
  | _ => none
def fDk (tbl : List (Str × Str)) (f : FE) : FE := fun ρ => (f ρ).bind fun p => (der p.2 p.1).bind (kdS tbl p.2)
structure Kd (K : PySem.W.Frag) (w : World) (mg : Str → Option Value) (x : Str) (tbl : List (Str × Str)) : Prop where
  ex : ∃ d, mg x = some (.ref d) ∧ ∀ z v, kdL tbl z = some v → KDct K w d z (.str v)
inductive KdE (K : PySem.W.Frag) (p : Addr) : List (Str × Str) → Prop
  | nil : KdE K p []
  | cons {k v : Str} {r : List (Str × Str)} {t : Tok} (h : PySem.W.nsIn K p k = some (some (.str v t))) (hr : KdE K p r) : KdE K p ((k, v) :: r)
theorem KdE.get {p : Addr} : ∀ {tbl : List (Str × Str)}, KdE K p tbl → ∀ z v, kdL tbl z = some v → ∃ t, PySem.W.nsIn K p z = some (some (.str v t))
  | _, .nil, z, v, h => nomatch h
  | _, .cons (k := k) (v := v') (r := r) (t := t) h hr, z, v, e => by
    unfold kdL at e
    by_cases hk : k = z
    · rw [if_pos hk] at e
      cases e
      exact ⟨t, hk ▸ h⟩
    · rw [if_neg hk] at e
      exact hr.get z v e
-- evaluation
def kDk1 (tbl : List (Str × Str)) (x : Option (Opd × Ev)) : Option (Opd × Ev) := x.bind fun p => (der p.2 p.1).bind (kdS tbl p.2)
def kDk2 (tbl : List (Str × Str)) (ρ : Ev) (x : Option D) : Option (Opd × Ev) := x.bind (kdS tbl ρ)
def kDk3 (ρ : Ev) (x : Option Str) : Option (Opd × Ev) := x.bind fun v => some (.d (.str v), ρ)
theorem ev_dk {tbl : List (Str × Str)} {f : FE} {ρ : Ev} : fDk tbl f ρ = kDk1 tbl (f ρ) := (rfl)
theorem kDk1_s {tbl : List (Str × Str)} {o : Opd} {ρ : Ev} : kDk1 tbl (some (o, ρ)) = kDk2 tbl ρ (der ρ o) := (rfl)
theorem kDk2_s {tbl : List (Str × Str)} {z : Str} {ρ : Ev} : kDk2 tbl ρ (some (.str z)) = kDk3 ρ (kdL tbl z) := (rfl)
theorem kDk3_s {v : Str} {ρ : Ev} : kDk3 ρ (some v) = some (.d (.str v), ρ) := (rfl)
end Dv

set_option Elab.async false
set_option linter.all false
set_option maxRecDepth 100000
set_option maxHeartbeats 2000000
/-! an own list is looked at within a test, and stays its slot's own -/
namespace Dv
open PySem PySem.Spec PyProof.Rows L2
def ownNoL : Sl → Bool
  | .own ds => noLs ds
  | .bor ds => noLs ds
  | _ => true
open Classical in
noncomputable def fPeek (i : Nat) (ft : FT) : FT := fun ρ => (ft ρ).bind fun p => (ownD ρ[i]?).bind fun ds => if ρ[i]? = some (.own ds) ∧ ρ.all ownNoL = true ∧ p.2 = ρ.set i (.val (.lst ds)) then some (p.1, ρ) else none
end Dv

set_option Elab.async false
set_option linter.all false
set_option maxRecDepth 100000
set_option maxHeartbeats 2000000
/-! what is raised: readings beside the readings of values -/
namespace Dv
open PySem PySem.Spec PyProof.Rows L2
/-- an exception: its class's name, its fields -/
structure Ex where
  c : Str
  fs : List (Str × D)
abbrev FX := Ev → Option (Ex × Ev)
def XR (K : PySem.W.Frag) (mg : Str → Option Value) (O : AP) (H : Hp) (x : Ex) (cls : Value) (d : Option Addr) : Prop :=
  ∃ Cl : Addr, mg x.c = some (.ref Cl) ∧ cls = .ref Cl ∧ ∃ (dd : Addr) (fvs : List (Str × V)), d = some dd ∧ H dd = some (.xd fvs) ∧ fvs.map (·.1) = x.fs.map (·.1) ∧ Reps K H O (x.fs.map (·.2)) (fvs.map (·.2))
def rX (K : PySem.W.Frag) (mg : Str → Option Value) (W : WX) (fx : FX) (σ : L2.St) (H : Hp) : Prop := ∃ C O ρ x ρ', C.K = K ∧ FR C O σ ρ H ∧ fx ρ = some (x, ρ') ∧
  ∀ cls d H' O', FR C O' σ ρ' H' → Fw O σ ρ H O' ρ' H' → XR K mg O' H' x cls d → W cls d σ H'
def rS (K : PySem.W.Frag) (mg : Str → Option Value) (W : WX) (fx : FX) (σ : L2.St) (H : Hp) : Prop := ∃ C O ρ x ρ', C.K = K ∧ FR C O σ ρ H ∧ fx ρ = some (x, ρ') ∧
  ∀ cls d σ' H' O', FR C O' σ' ρ' H' → XR K mg O' H' x cls d → W cls d σ' H'
section
variable {K : PySem.W.Frag} {mg : Str → Option Value} {W : WX} {f : FE} {g : FA} {fx : FX} {σ : L2.St} {H : Hp}
theorem rS.x (h : rS K mg W fx σ H) : rX K mg W fx σ H := by
  obtain ⟨C, O, ρ, x, ρ', ek, F, e, q⟩ := h
  exact ⟨C, O, ρ, x, ρ', ek, F, e, fun cls d H' O' F' _ xr => q cls d σ H' O' F' xr⟩
end
structure CalX (P : Program) (w : World) (K : PySem.W.Frag) (mg : Str → Option Value) (base : Heap) (k : Nat) (x : Str) (ps : List Str) (sp : Sp) : Prop where
  ex : ∃ (f : Addr) (fd : FuncData), mg x = some (.ref f) ∧ PySem.W.keepIn K (.ref f) = true ∧ FnOk P w K mg base (L2.CX P w) k f fd ps sp ∧ Binds K fd ps [] ∧ KRev K fd ps
section
variable {X : Cx} {k n j : Nat} {x : Str} {ps : List Str} {φ : F0} {ξ : List D → Option Ex} {W : WX} {e : Expr} {es : List Expr} {f fb : FE} {fa g : FA} {fx gx : FX} {ft : FT} {p pos : Pos}
end

/-! ### statements -/
section
variable {X : Cx} {W : WX} {e : Expr} {st : Stmt} {rest sa sb : List Stmt} {f : FE} {ft : FT} {g h : FS} {fx gx hx : FX} {pos : Pos}
end
/-! ### a def that may raise, by its body -/
section
variable {P : Program} {w : World} {K : PySem.W.Frag} {mg : Str → Option Value} {base : Heap}
end
end Dv

set_option Elab.async false
set_option linter.all false
set_option maxRecDepth 100000
set_option maxHeartbeats 2000000
/-! raise of an own class with two fields; try .. except X as n -/
namespace Dv
open PySem PySem.Spec PyProof.Rows L2
/-- __init__(self, a, b): self.n1 = a; self.n2 = b -/
def spI2 (K : PySem.W.Frag) (n1 n2 : Str) : Sp := fun vs H Q _ => ∃ (a C : Addr) (y z : V), vs = [.ref a, y, z] ∧ OexC K C ∧ PySem.W.findIn K (.ref C) n1 = some none ∧ PySem.W.findIn K (.ref C) n2 = some none ∧ H a = some (exo a C none) ∧
  ∀ dx, H dx = none → dx ≠ a → Q .non (upd (upd (upd H dx (exd dx [(n1, y)])) a (exo a C (some dx))) dx (exd dx [(n2, z), (n1, y)]))
/-- what is known of such a class -/
structure ClsX (P : Program) (w : World) (K : PySem.W.Frag) (mg : Str → Option Value) (base : Heap) (k : Nat) (c n1 n2 : Str) : Prop where
  ex : ∃ (C fI : Addr) (fd : FuncData) (ps : List Str), mg c = some (.ref C) ∧ OexC K C ∧ PySem.W.findIn K (.ref C) n1 = some none ∧ PySem.W.findIn K (.ref C) n2 = some none ∧
    PySem.W.findIn K (.ref C) "__init__" = some (some (.ref fI)) ∧ PySem.W.typeIn K (.ref fI) = some (.type "function") ∧ FnOk P w K mg base CX0 k fI fd ps (spI2 K n1 n2) ∧ Binds K fd ps []
section
variable {X : Cx} {W : WX} {e : Expr} {es : List Expr} {fa : FA} {c n1 n2 : Str} {k j : Nat} {p pos pos2 : Pos}
end
/-! ### try -/
def outUn (i : Nat) : Out → Out
  | .nx ρ => .nx (ρ.set i .un)
  | .rt o ρ => .rt o ρ
  | .bk ρ => .bk (ρ.set i .un)
  | .ct ρ => .ct (ρ.set i .un)
open Classical in
noncomputable def sTry (i : Nat) (c : Str) (g : FS) (gx : FX) (hs : Ex → FS) : FS := fun ρ => match g ρ with
  | some out => some out
  | none => (gx ρ).bind fun p => if p.1.c = c ∧ i < p.2.length then (hs p.1 (p.2.set i .un)).bind fun o => some (outUn i o) else none
theorem XR.fw {K : PySem.W.Frag} {mg : Str → Option Value} {C : Fc} {O O' : AP} {σ : L2.St} {ρ ρ' : Ev} {H H' : Hp} {x : Ex} {cls : Value} {d : Option Addr} (h : XR K mg O H x cls d) (ek : C.K = K) (F : FR C O σ ρ H) (w : Fw O σ ρ H O' ρ' H') : XR K mg O' H' x cls d := by
  obtain ⟨Cl, m, ec, dd, fvs, ed, eh, en, rp⟩ := h
  refine ⟨Cl, m, ec, dd, fvs, ed, w.kp dd _ eh fun z => ?_, en, by rw [← ek] at rp ⊢; exact w.reps F rp⟩
  obtain ⟨xs, q⟩ := F.mu dd (F.ownO z)
  rw [eh] at q; cases q
/-! ### within an except's suite -/
section
variable {X : Cx} {i : Nat} {a : Addr} {cls : Value} {d : Option Addr} {e : Expr} {es : List Expr} {f g : Ex → FE} {h : Ex → FA} {t : Ex → FT} {f0 : FE} {pos : Pos}
end
/-! ### what the top tells of such a class -/
structure ExcF (K : PySem.W.Frag) (mg : Str → Option Value) (c n1 n2 : Str) : Prop where
  ex : ∃ Cl : Addr, mg c = some (.ref Cl) ∧ PySem.W.exmOne K (.ref Cl) (.ref Cl) = some true ∧ XfC K Cl ∧ PySem.W.findIn K (.ref Cl) n1 = some none ∧ PySem.W.findIn K (.ref Cl) n2 = some none
end Dv

set_option Elab.async false
set_option linter.all false
set_option maxRecDepth 100000
set_option maxHeartbeats 2000000
/-! isinstance of what is caught; calls by name that may raise -/
namespace Dv
open PySem PySem.Spec PyProof.Rows L2
structure IsiC (K : PySem.W.Frag) (D : Addr) : Prop where
  c : (PySem.W.clsIn K D).isSome = true
  g : PySem.W.findIn K (.ref D) "__getattribute__" = some (some (.builtin "BaseException.__getattribute__"))
  t : PySem.W.findIn K (.ref D) "__getattr__" = some none
  b : PySem.W.subIn K (.ref D) (.type "BaseException") = some true
  a : PySem.W.findIn K (.ref D) "__class__" = some (some (.builtin "object.__class__"))
  n : PySem.W.specialIn K (.builtin "object.__class__") "__get__" = some (some (.builtin "getset_descriptor.__get__"))
  k : PySem.W.takesIn K (.builtin "object.__class__") = some true
  m : PySem.W.mroIn K D (.type "object") = some true
structure IsiG (K : PySem.W.Frag) (mg : Str → Option Value) (c y : Str) : Prop where
  ex : ∃ D Cy : Addr, mg c = some (.ref D) ∧ mg y = some (.ref Cy) ∧ PySem.W.kitOne K (.ref D) (.ref Cy) = some true ∧ IsiC K D
structure IsiB (K : PySem.W.Frag) (mg : Str → Option Value) (c : Str) : Prop where
  ex : ∃ D : Addr, mg c = some (.ref D) ∧ mg "ValueError" = none ∧ PySem.W.kitOne K (.ref D) (.type "ValueError") = some true ∧ IsiC K D
section
variable {X : Cx} {a : Addr} {oe : Obj} {cls : Value} {d : Option Addr} {pn : List (Addr × Obj)} {i : Nat} {n c y : Str} {p p1 p2 pos : Pos}
end
section
variable {X : Cx} {i : Nat} {a : Addr} {cls : Value} {d : Option Addr} {e b : Expr} {rest : List Expr} {f : Ex → FE} {t u : Ex → FT} {pos : Pos}
end
end Dv

set_option Elab.async false
set_option linter.all false
set_option maxRecDepth 100000
set_option maxHeartbeats 2000000
/-! written dicts of texts that are only read -/
namespace Dv
open PySem PySem.Spec PyProof.Rows L2
section
variable {K : PySem.W.Frag} {H : Hp} {O : AP} {p : Addr} {u : HO}
end
/-! the display -/
structure DpR (X : Cx) (pos : Pos) (keys : List (Option Expr)) (values : List Expr) (ks : List Str) (fa : FA) : Prop where
  ex : ∃ trs, PPs X pos keys values trs ∧ ∀ σ H Q, tAr X.K fa σ H (fun vs H' => vs.length = ks.length → Q ((ks.zip vs).map fun p => (V.str p.1, p.2)) H') → tPairs trs σ H Q
section
variable {X : Cx} {pos : Pos} {p : Pos} {keys : List (Option Expr)} {values : List Expr} {v : Expr} {k : Str} {ks : List Str} {f : FE} {fa : FA} {j : Nat}
end
/-! d[k] -/
end Dv

set_option Elab.async false
set_option linter.all false
set_option maxRecDepth 100000
set_option maxHeartbeats 2000000
/-! zip of two lists -/
namespace Dv
open PySem PySem.Spec PyProof.Rows L2
section
variable {K : PySem.W.Frag} {H : Hp} {O : AP} {X : Cx}
def itemsL : D → Option (List D)
  | .lst xs => some xs
  | .frl xs => some xs
  | _ => none
def zipD (xs ys : List D) : List D := List.zipWith (fun a b => .tup [a, b]) xs ys
def zpD : List D × Ev → Option (List D × Ev)
  | ([x, y], ρ) => (itemsL x).bind fun xs => (itemsL y).bind fun ys => some (zipD xs ys, ρ)
  | _ => none
def iZp (fa : FA) : FI := fun ρ => (fa ρ).bind fun p => (escs p.1 p.2).bind zpD
def kZ1 (x : Option (List Opd × Ev)) : Option (List D × Ev) := x.bind fun p => (escs p.1 p.2).bind zpD
def kZ2 (x : Option (List D × Ev)) : Option (List D × Ev) := x.bind zpD
theorem ev_izp {fa : FA} {ρ : Ev} : iZp fa ρ = kZ1 (fa ρ) := (rfl)
theorem kZ1_s {os : List Opd} {ρ : Ev} : kZ1 (some (os, ρ)) = kZ2 (escs os ρ) := (rfl)
theorem kZ2_s {xs ys : List D} {ρ : Ev} : kZ2 (some ([.lst xs, .lst ys], ρ)) = some (zipD xs ys, ρ) := (rfl)
end
end Dv

set_option Elab.async false
set_option linter.all false
set_option maxRecDepth 100000
set_option maxHeartbeats 4000000
namespace Dv
open PySem PySem.Spec PyProof.Rows L2
noncomputable section
def dc_USES : D := (.tup [(.str "keep"), (.str "check"), (.str "skip"), (.str "end"), (.str "stop")])
def dc_WIDTHS : D := (.tup [(.str "one"), (.str "high"), (.str "low")])
def dc_BASE : D := (.int 0)
def dc_HEAD : D := (.int 1)
def dc_TAG : D := (.tup [(.str "tag")])
def dc_MOST : D := (.int 3)
def dc_WIDTH : D := (.int 2)
def dc_OTHERS : D := (.int 5)
def dc_TAGS : D := (.int 4)
def dc_OVER : D := (.tup [(.str "over")])
def dc_ROOM : D := (.tup [(.str "room")])
-- slots of _law_grab: bag below digit mix
def g__law_grab : FS :=
  (sSeq (sIf (fTest (fBin (gCmp fun i j => decide (j < i)) (fBin gIx (fName 0) (fC (.int 0))) (fC (.int 0)))) (sSeq (sSet 2 (fBin gMod (fB1 gInt (fBin gIx (fName 0) (fC (.int 0)))) (fName 1)))
    (sSeq (sStI 0 (pInt (fC (.int 0))) (fBin gDiv (fBin gIx (fName 0) (fC (.int 0))) (fName 1)))
    (sRet (fName 2)))) sSkip)
    (sSeq (sStI 0 (pInt (fC (.int 2))) (fBin gAdd (fBin gIx (fName 0) (fC (.int 2))) (fC (.int 1))))
    (sSeq (sSet 3 (fBin gMod (fBin gPow (fB1 gInt (fBin gAdd (fBin gIx (fName 0) (fC (.int 1))) (fBin gMul (fC (.int 90019)) (fBin gIx (fName 0) (fC (.int 2)))))) (fC (.int 2))) (fBin gAdd (fBin gPow (fC (.int 10)) (fC (.int 38))) (fC (.int 271)))))
    (sSeq (sSet 3 (fBin gMod (fBin gPow (fB1 gInt (fBin gAdd (fName 3) (fBin gMul (fC (.int 1900037)) (fBin gIx (fName 0) (fC (.int 2)))))) (fC (.int 3))) (fBin gAdd (fBin gPow (fC (.int 10)) (fC (.int 39))) (fC (.int 331)))))
    (sRet (fBin gMod (fBin gDiv (fName 3) (fC (.int 8192))) (fName 1)))))))
def phi__law_grab : F1 := phi1 2 4 g__law_grab
theorem e__law_grab : ∀ ds r, phi__law_grab ds = some r → ds.length = 2 ∧ run1 4 g__law_grab ds = some r := fun _ _ h => phi_run1 h
theorem n__law_grab : ∀ ds r, phi__law_grab ds = some r → ds.length = 2 := fun ds r h => (e__law_grab ds r h).1
-- slots of _law_drawn_tags: bag base many_here kinds_here found sign
def g__law_drawn_tags : FS :=
  (sSeq (sPar [(3, true), (4, true)] (aCons (fLst (aCons (fC (.str "keep")) (aCons (fC (.str "check")) (aCons (fC (.str "skip")) (aCons (fC (.str "end")) (aCons (fC (.str "stop")) (aCons (fC (.str "keep")) (aCons (fC (.str "skip")) aNil)))))))) (aCons (fLst aNil) aNil)))
    (sSeq (sFor (iRg1 (pInt (fName 1))) (.nm 5) (sIf (fAnd (fTest (fBin (gCmp fun i j => decide (i < j)) (fB1 gLen (fName 4)) (fName 2))) (fTest (fBin (gCmp fun i j => decide (i < j)) (fCall1 phi__law_grab (aCons (fName 0) (aCons (fName 1) aNil))) (fName 2)))) (sApp 4 (fTup (aCons (fName 5) (aCons (fBin gIx (fName 3) (fCall1 phi__law_grab (aCons (fName 0) (aCons (fC (.int 7)) aNil)))) aNil)))) sSkip))
    (sRet (fB1 gTuple (fName 4)))))
def phi__law_drawn_tags : F1 := phi1 3 6 g__law_drawn_tags
theorem e__law_drawn_tags : ∀ ds r, phi__law_drawn_tags ds = some r → ds.length = 3 ∧ run1 6 g__law_drawn_tags ds = some r := fun _ _ h => phi_run1 h
theorem n__law_drawn_tags : ∀ ds r, phi__law_drawn_tags ds = some r → ds.length = 3 := fun ds r h => (e__law_drawn_tags ds r h).1
-- slots of _law_drawn_form: bag base marks_here most_here many_here many_marks head_here wide top rows k
def g__law_drawn_form : FS :=
  (sSeq (sSet 5 (fCall1 phi__law_grab (aCons (fName 0) (aCons (fBin gAdd (fName 2) (fC (.int 1))) aNil))))
    (sSeq (sSet 6 (fLc (iRg1 (pInt (fName 5))) (.nm 10) fYes (fIf (fTest (fBin (gEq false) (fCall1 phi__law_grab (aCons (fName 0) (aCons (fC (.int 3)) aNil))) (fC (.int 0)))) (fC .non) (fCall1 phi__law_grab (aCons (fName 0) (aCons (fName 1) aNil)))) [10]))
    (sSeq (sSet 7 (fBin gIx (fLst (aCons (fC (.str "one")) (aCons (fC (.str "one")) (aCons (fC (.str "high")) (aCons (fC (.str "low")) aNil))))) (fCall1 phi__law_grab (aCons (fName 0) (aCons (fC (.int 4)) aNil)))))
    (sSeq (sSet 8 (fCall1 phi__law_grab (aCons (fName 0) (aCons (fBin gAdd (fName 3) (fC (.int 1))) aNil))))
    (sSeq (sSet 9 (fCall1 phi__law_drawn_tags (aCons (fName 0) (aCons (fName 1) (aCons (fCall1 phi__law_grab (aCons (fName 0) (aCons (fBin gAdd (fName 4) (fC (.int 1))) aNil))) aNil)))))
    (sRet (fTup (aCons (fName 1) (aCons (fB1 gTuple (fName 6)) (aCons (fName 7) (aCons (fName 8) (aCons (fName 9) (aCons (fBin gIx (fLst (aCons (fC (.str "skip")) (aCons (fC (.str "refuse")) aNil))) (fCall1 phi__law_grab (aCons (fName 0) (aCons (fC (.int 2)) aNil)))) aNil)))))))))))))
def phi__law_drawn_form : F1 := phi1 5 11 g__law_drawn_form
theorem e__law_drawn_form : ∀ ds r, phi__law_drawn_form ds = some r → ds.length = 5 ∧ run1 11 g__law_drawn_form ds = some r := fun _ _ h => phi_run1 h
theorem n__law_drawn_form : ∀ ds r, phi__law_drawn_form ds = some r → ds.length = 5 := fun ds r h => (e__law_drawn_form ds r h).1
-- slots of _law_any_form: bag base great marks_here many top
def g__law_any_form : FS :=
  (sSeq (sPar [(3, false), (4, false)] (aCons (fBin gIx (fLst (aCons (fC (.int 3)) (aCons (fName 2) aNil))) (fCall1 phi__law_grab (aCons (fName 0) (aCons (fC (.int 2)) aNil)))) (aCons (fBin gIx (fLst (aCons (fC (.int 4)) (aCons (fName 2) aNil))) (fCall1 phi__law_grab (aCons (fName 0) (aCons (fC (.int 2)) aNil)))) aNil)))
    (sSeq (sSet 5 (fBin gIx (fLst (aCons (fC (.int 5)) (aCons (fC (.int 40)) (aCons (fC (.int 65535)) aNil)))) (fCall1 phi__law_grab (aCons (fName 0) (aCons (fC (.int 3)) aNil)))))
    (sRet (fCall1 phi__law_drawn_form (aCons (fName 0) (aCons (fName 1) (aCons (fName 3) (aCons (fName 5) (aCons (fName 4) aNil)))))))))
def phi__law_any_form : F1 := phi1 3 6 g__law_any_form
theorem e__law_any_form : ∀ ds r, phi__law_any_form ds = some r → ds.length = 3 ∧ run1 6 g__law_any_form ds = some r := fun _ _ h => phi_run1 h
theorem n__law_any_form : ∀ ds r, phi__law_any_form ds = some r → ds.length = 3 := fun ds r h => (e__law_any_form ds r h).1
-- slots of _law_bag: script at cell
def g__law_bag : FS :=
  (sSeq (sSet 2 (fIf (fTest (fBin (gCmp fun i j => decide (i < j)) (fName 1) (fB1 gLen (fName 0)))) (fBin gIx (fName 0) (fName 1)) (fC (.int 0))))
    (sRet (fLst (aCons (fBin gMax (fC (.int 0)) (fBin gSub (fB1 gAbs (fName 2)) (fBin gPow (fC (.int 10)) (fC (.int 18))))) (aCons (fBin gAdd (fBin gAdd (fBin gMul (fBin gMod (fB1 gInt (fName 2)) (fBin gAdd (fBin gPow (fC (.int 10)) (fC (.int 37))) (fC (.int 163)))) (fC (.int 89))) (fBin gMul (fC (.int 71)) (fName 1))) (fC (.int 53))) (aCons (fC (.int 0)) aNil))))))
def phi__law_bag : F0 := phi0 2 3 g__law_bag
theorem e__law_bag : ∀ ds r, phi__law_bag ds = some r → ds.length = 2 ∧ run0 3 g__law_bag ds = some r := fun _ _ h => phi_run h
theorem n__law_bag : ∀ ds r, phi__law_bag ds = some r → ds.length = 2 := fun ds r h => (e__law_bag ds r h).1
-- slots of _law_equal: found due k
def g__law_equal (phi : F0) : FS :=
  (sSeq (sIf (fOr (fTest (fBin gIsi (fName 0) (fC (.op (.ty "bool"))))) (fTest (fBin gIsi (fName 1) (fC (.op (.ty "bool")))))) (sRet (fAndV (fBin gIsi (fName 0) (fC (.op (.ty "bool")))) (fAndV (fBin gIsi (fName 1) (fC (.op (.ty "bool")))) (fBin (gEq false) (fName 0) (fName 1))))) sSkip)
    (sSeq (sIf (fOr (fTest (fBin (gEq true) (fBin gIsi (fName 0) (fC (.op (.ty "list")))) (fBin gIsi (fName 1) (fC (.op (.ty "list")))))) (fTest (fBin (gEq true) (fBin gIsi (fName 0) (fC (.op (.ty "tuple")))) (fBin gIsi (fName 1) (fC (.op (.ty "tuple"))))))) (sRet (fC (.bl false))) sSkip)
    (sSeq (sIf (fOr (fTest (fBin (gEq true) (fBin gIsi (fName 0) (fC (.op (.ty "str")))) (fBin gIsi (fName 1) (fC (.op (.ty "str")))))) (fTest (fBin (gEq true) (fBin gIsi (fName 0) (fC (.op (.ty "int")))) (fBin gIsi (fName 1) (fC (.op (.ty "int"))))))) (sRet (fC (.bl false))) sSkip)
    (sSeq (sIf (fTest (fB1 (gIsi2 "list" "tuple") (fName 1))) (sSeq (sIf (fTest (fBin (gEq true) (fB1 gLen (fName 0)) (fB1 gLen (fName 1)))) (sRet (fC (.bl false))) sSkip)
    (sRet (fBin (gEq false) (fLc (iRg1 (pInt (fB1 gLen (fName 1)))) (.nm 2) (fNot (fTest (fCall phi (aCons (fBin gIx (fName 0) (fName 2)) (aCons (fBin gIx (fName 1) (fName 2)) aNil))))) (fName 2) [2]) (fLst aNil)))) sSkip)
    (sRet (fAndV (fBin (gEq false) (fBin (gIs false) (fName 0) (fC .non)) (fBin (gIs false) (fName 1) (fC .non))) (fBin (gEq false) (fName 0) (fName 1))))))))
def phiR__law_equal : Nat → F0
  | 0 => fun _ => none
  | k + 1 => fun ds => if ds.length = 2 then run0 3 (g__law_equal (phiR__law_equal k)) ds else none
def phi__law_equal : F0 := phiR__law_equal 8
theorem eR__law_equal (k : Nat) : ∀ ds r, phiR__law_equal (k + 1) ds = some r → ds.length = 2 ∧ run0 3 (g__law_equal (phiR__law_equal k)) ds = some r := fun ds r h => phi_run (show phi0 2 3 (g__law_equal (phiR__law_equal k)) ds = some r from h)
theorem nR__law_equal : ∀ (k : Nat) ds r, phiR__law_equal k ds = some r → ds.length = 2
  | 0, _, _, h => nomatch h
  | k + 1, ds, r, h => (eR__law_equal k ds r h).1
theorem n__law_equal : ∀ ds r, phi__law_equal ds = some r → ds.length = 2 := nR__law_equal 8
-- slots of _law_long: form_here signs_here at base wide top first second worth
-- slots of _law_chunk: form_here signs_here at use_here worth body_here good
-- slots of _law_use: form_here sign row
-- slots of _law_reading: form_here signs_here content_here blind k at use_here good body_here after row
-- slots of _law_stand_of: form_here signs_here size k at use_here room worth place total
-- slots of _law_written: bag form_here many_here base found ends k sign use_here worth body_here size row spot mark turn
-- slots of is_integer: value
def g_is_integer : FS :=
  (sRet (fAndV (fBin gIsi (fName 0) (fC (.op (.ty "int")))) (fNotV (fBin gIsi (fName 0) (fC (.op (.ty "bool")))))))
def phi_is_integer : F0 := phi0 1 1 g_is_integer
theorem e_is_integer : ∀ ds r, phi_is_integer ds = some r → ds.length = 1 ∧ run0 1 g_is_integer ds = some r := fun _ _ h => phi_run h
theorem n_is_integer : ∀ ds r, phi_is_integer ds = some r → ds.length = 1 := fun ds r h => (e_is_integer ds r h).1
-- slots of is_sign: value base
def g_is_sign : FS :=
  (sRet (fAndV (fCall phi_is_integer (aCons (fName 0) aNil)) (fCh (gCmp fun i j => decide (i ≤ j)) (gCmp fun i j => decide (i < j)) (fC (.int 0)) (fName 0) (fName 1))))
def phi_is_sign : F0 := phi0 2 2 g_is_sign
theorem e_is_sign : ∀ ds r, phi_is_sign ds = some r → ds.length = 2 ∧ run0 2 g_is_sign ds = some r := fun _ _ h => phi_run h
theorem n_is_sign : ∀ ds r, phi_is_sign ds = some r → ds.length = 2 := fun ds r h => (e_is_sign ds r h).1
-- slots of are_signs: value base sign
def g_are_signs : FS :=
  (sRet (fAndV (fBin gIsi (fName 0) (fC (.op (.ty "tuple")))) (fB1 gAll (fLc (iSeq (fName 0)) (.nm 2) fYes (fCall phi_is_sign (aCons (fName 2) (aCons (fName 1) aNil))) [2]))))
def phi_are_signs : F0 := phi0 2 3 g_are_signs
theorem e_are_signs : ∀ ds r, phi_are_signs ds = some r → ds.length = 2 ∧ run0 3 g_are_signs ds = some r := fun _ _ h => phi_run h
theorem n_are_signs : ∀ ds r, phi_are_signs ds = some r → ds.length = 2 := fun ds r h => (e_are_signs ds r h).1
-- slots of _is_word: value words
def g__is_word : FS :=
  (sRet (fAndV (fBin gIsi (fName 0) (fC (.op (.ty "str")))) (fBin (gIn false) (fName 0) (fName 1))))
def phi__is_word : F0 := phi0 2 2 g__is_word
theorem e__is_word : ∀ ds r, phi__is_word ds = some r → ds.length = 2 ∧ run0 2 g__is_word ds = some r := fun _ _ h => phi_run h
theorem n__is_word : ∀ ds r, phi__is_word ds = some r → ds.length = 2 := fun ds r h => (e__is_word ds r h).1
-- slots of _is_tag: value base
def g__is_tag : FS :=
  (sSeq (sIf (fOr (fNot (fTest (fBin gIsi (fName 0) (fC (.op (.ty "tuple")))))) (fTest (fBin (gEq true) (fB1 gLen (fName 0)) (fC (.int 2))))) (sRet (fC (.bl false))) sSkip)
    (sRet (fAndV (fCall phi_is_sign (aCons (fBin gIx (fName 0) (fC (.int 0))) (aCons (fName 1) aNil))) (fCall phi__is_word (aCons (fBin gIx (fName 0) (fC (.int 1))) (aCons (fC dc_USES) aNil))))))
def phi__is_tag : F0 := phi0 2 2 g__is_tag
theorem e__is_tag : ∀ ds r, phi__is_tag ds = some r → ds.length = 2 ∧ run0 2 g__is_tag ds = some r := fun _ _ h => phi_run h
theorem n__is_tag : ∀ ds r, phi__is_tag ds = some r → ds.length = 2 := fun ds r h => (e__is_tag ds r h).1
-- slots of _are_tags: value base tag k
def g__are_tags : FS :=
  (sSeq (sIf (fOr (fNot (fTest (fBin gIsi (fName 0) (fC (.op (.ty "tuple")))))) (fNot (fTest (fB1 gAll (fLc (iSeq (fName 0)) (.nm 2) fYes (fCall phi__is_tag (aCons (fName 2) (aCons (fName 1) aNil))) [2]))))) (sRet (fC (.bl false))) sSkip)
    (sRet (fB1 gAll (fLc (iRg2 (pInt (fC (.int 1))) (pInt (fB1 gLen (fName 0)))) (.nm 3) fYes (fBin (gCmp fun i j => decide (i < j)) (fBin gIx (fBin gIx (fName 0) (fBin gSub (fName 3) (fC (.int 1)))) (fC (.int 0))) (fBin gIx (fBin gIx (fName 0) (fName 3)) (fC (.int 0)))) [3]))))
def phi__are_tags : F0 := phi0 2 4 g__are_tags
theorem e__are_tags : ∀ ds r, phi__are_tags ds = some r → ds.length = 2 ∧ run0 4 g__are_tags ds = some r := fun _ _ h => phi_run h
theorem n__are_tags : ∀ ds r, phi__are_tags ds = some r → ds.length = 2 := fun ds r h => (e__are_tags ds r h).1
-- slots of _is_head: value base mark
def g__is_head : FS :=
  (sSeq (sIf (fNot (fTest (fBin gIsi (fName 0) (fC (.op (.ty "tuple")))))) (sRet (fC (.bl false))) sSkip)
    (sRet (fB1 gAll (fLc (iSeq (fName 0)) (.nm 2) fYes (fOrV (fBin (gIs false) (fName 2) (fC .non)) (fCall phi_is_sign (aCons (fName 2) (aCons (fName 1) aNil)))) [2]))))
def phi__is_head : F0 := phi0 2 3 g__is_head
theorem e__is_head : ∀ ds r, phi__is_head ds = some r → ds.length = 2 ∧ run0 3 g__is_head ds = some r := fun _ _ h => phi_run h
theorem n__is_head : ∀ ds r, phi__is_head ds = some r → ds.length = 2 := fun ds r h => (e__is_head ds r h).1
-- slots of is_format: value base head width most tags others
def g_is_format : FS :=
  (sSeq (sIf (fOr (fNot (fTest (fBin gIsi (fName 0) (fC (.op (.ty "tuple")))))) (fTest (fBin (gEq true) (fB1 gLen (fName 0)) (fC (.int 6))))) (sRet (fC (.bl false))) sSkip)
    (sSeq (sUnp (.tp [1, 2, 3, 4, 5, 6]) (fName 0))
    (sSeq (sIf (fOr (fNot (fTest (fCall phi_is_integer (aCons (fName 1) aNil)))) (fNot (fTest (fCh (gCmp fun i j => decide (i ≤ j)) (gCmp fun i j => decide (i ≤ j)) (fC (.int 2)) (fName 1) (fC (.int 256)))))) (sRet (fC (.bl false))) sSkip)
    (sSeq (sIf (fOr (fNot (fTest (fCall phi__is_head (aCons (fName 2) (aCons (fName 1) aNil))))) (fNot (fTest (fCall phi__is_word (aCons (fName 3) (aCons (fC dc_WIDTHS) aNil)))))) (sRet (fC (.bl false))) sSkip)
    (sSeq (sIf (fOr (fNot (fTest (fCall phi_is_integer (aCons (fName 4) aNil)))) (fTest (fBin (gCmp fun i j => decide (i < j)) (fName 4) (fC (.int 0))))) (sRet (fC (.bl false))) sSkip)
    (sRet (fAndV (fCall phi__are_tags (aCons (fName 5) (aCons (fName 1) aNil))) (fCall phi__is_word (aCons (fName 6) (aCons (fTup (aCons (fC (.str "skip")) (aCons (fC (.str "refuse")) aNil))) aNil))))))))))
def phi_is_format : F0 := phi0 1 7 g_is_format
theorem e_is_format : ∀ ds r, phi_is_format ds = some r → ds.length = 1 ∧ run0 7 g_is_format ds = some r := fun _ _ h => phi_run h
theorem n_is_format : ∀ ds r, phi_is_format ds = some r → ds.length = 1 := fun ds r h => (e_is_format ds r h).1
-- slots of check_format: form
def g_check_format : FS :=
  (sIf (fNot (fTest (fCall phi_is_format (aCons (fName 0) aNil)))) sStuck sSkip)
def phi_check_format : F0 := phi0 1 1 g_check_format
theorem e_check_format : ∀ ds r, phi_check_format ds = some r → ds.length = 1 ∧ run0 1 g_check_format ds = some r := fun _ _ h => phi_run h
theorem n_check_format : ∀ ds r, phi_check_format ds = some r → ds.length = 1 := fun ds r h => (e_check_format ds r h).1
-- slots of is_file: form value
def g_is_file : FS :=
  (sSeq (sDrop (fCall phi_check_format (aCons (fName 0) aNil)))
    (sRet (fCall phi_are_signs (aCons (fName 1) (aCons (fBin gIx (fName 0) (fC dc_BASE)) aNil)))))
def phi_is_file : F0 := phi0 2 2 g_is_file
theorem e_is_file : ∀ ds r, phi_is_file ds = some r → ds.length = 2 ∧ run0 2 g_is_file ds = some r := fun _ _ h => phi_run h
theorem n_is_file : ∀ ds r, phi_is_file ds = some r → ds.length = 2 := fun ds r h => (e_is_file ds r h).1
-- slots of check_file: form file
-- slots of behind_marks: form count
def g_behind_marks : FS :=
  (sSeq (sIf (fTest (fBin (gCmp fun i j => decide (i < j)) (fName 1) (fB1 gLen (fBin gIx (fName 0) (fC dc_HEAD))))) (sRet (fTup (aCons (fC (.str "head")) (aCons (fName 1) aNil)))) sSkip)
    (sRet (fC dc_TAG)))
def phi_behind_marks : F0 := phi0 2 2 g_behind_marks
theorem e_behind_marks : ∀ ds r, phi_behind_marks ds = some r → ds.length = 2 ∧ run0 2 g_behind_marks ds = some r := fun _ _ h => phi_run h
theorem n_behind_marks : ∀ ds r, phi_behind_marks ds = some r → ds.length = 2 := fun ds r h => (e_behind_marks ds r h).1
-- slots of first_stand: form
def g_first_stand : FS :=
  (sRet (fCall phi_behind_marks (aCons (fName 0) (aCons (fC (.int 0)) aNil))))
def phi_first_stand : F0 := phi0 1 1 g_first_stand
theorem e_first_stand : ∀ ds r, phi_first_stand ds = some r → ds.length = 1 ∧ run0 1 g_first_stand ds = some r := fun _ _ h => phi_run h
-- slots of _behind_body: use due
-- slots of _behind_body_sign: form stand sign _ use left total
-- slots of _behind_length: use length
-- slots of _behind_first: form use sign least
-- slots of _behind_mark: form at sign mark
-- slots of _behind_second: form use first sign length
-- slots of use_of: form sign tag use
-- slots of _behind_tag: form sign use
-- slots of next_stand: form stand sign name
-- slots of stands_along: form file stand along sign
-- slots of stand_behind: form beginning
-- slots of law: script at bag turn base form_here signs_here size spots spot part due heard refused k
-- slots of _law_good_file: bag form_here many_here most_here turn row
-- slots of end_tag: form tag use
-- slots of ends_well: form stand
-- slots of word_at: stand
-- slots of refusal_along: form along
-- slots of along_read: form file along found
-- slots of _body_of: parts part
-- slots of told_part: form stand sign
-- slots of told_along: form signs along parts begun over k at end
-- slots of read: form file
-- slots of refusal: form file
-- slots of _law_right: form_here row told_here blind bad
-- slots of law: script at bag turn base top form_here row k signs_here sign_here f j
-- slots of _law_turned_blind: bag form_here row blind found k
-- slots of _law_wide_form: bag base top
-- slots of looks: form stand
-- slots of looked_at: form file along k
-- slots of law: script at bag turn form_here row told_here blind bad due found trial other_row a k
-- slots of _law_long_file: bag form_here use_here base size body_here top worth size_here found k
-- slots of _law_told: form_here row found e
-- slots of law: script at bag use_here base top ends form_here turn row told_here blind bad due f k
-- slots of _law_free: bag base size k
-- slots of _law_any_file: bag form_here found
-- slots of _law_heard: way form_here row found e
-- slots of law: script at bag turn form_here trial row told_here blind bad due a
-- slots of _law_longest: form_here base
-- slots of _law_content: bag form_here many_here most_here rows found k top size body_here row j
-- slots of _law_files: base size rows k longer row sign
-- slots of _law_is_least: form_here content_here row size other_row told_here blind bad
-- slots of _law_put: form_here content_here base found tag_here body_here size signs_here ends mark row
-- slots of _length_signs: form length high low
-- slots of _chunk_signs: form tag body check
-- slots of _greatest_length: form base written
-- slots of _is_chunk: form value tag body
-- slots of is_content: form value chunk
-- slots of check_content: form content
-- slots of write: form content signs tag body last mark
-- slots of law: script at bag turn form_here content_here due made base size wide use_here row b k
end
end Dv

set_option Elab.async false
set_option linter.all false
set_option maxRecDepth 100000
set_option maxHeartbeats 4000000
namespace Dv
open PySem PySem.Spec PyProof.Rows L2
theorem wt : (Str.ofString "keep" ≠ Str.ofString "check") ∧ (Str.ofString "keep" ≠ Str.ofString "skip") ∧ (Str.ofString "keep" ≠ Str.ofString "end") ∧ (Str.ofString "keep" ≠ Str.ofString "stop") ∧ (Str.ofString "keep" ≠ Str.ofString "refuse") ∧ (Str.ofString "keep" ≠ Str.ofString "") ∧ (Str.ofString "check" ≠ Str.ofString "keep") ∧ (Str.ofString "check" ≠ Str.ofString "skip") ∧ (Str.ofString "check" ≠ Str.ofString "end") ∧ (Str.ofString "check" ≠ Str.ofString "stop") ∧ (Str.ofString "check" ≠ Str.ofString "refuse") ∧ (Str.ofString "check" ≠ Str.ofString "") ∧ (Str.ofString "skip" ≠ Str.ofString "keep") ∧ (Str.ofString "skip" ≠ Str.ofString "check") ∧ (Str.ofString "skip" ≠ Str.ofString "end") ∧ (Str.ofString "skip" ≠ Str.ofString "stop") ∧ (Str.ofString "skip" ≠ Str.ofString "refuse") ∧ (Str.ofString "skip" ≠ Str.ofString "") ∧ (Str.ofString "end" ≠ Str.ofString "keep") ∧ (Str.ofString "end" ≠ Str.ofString "check") ∧ (Str.ofString "end" ≠ Str.ofString "skip") ∧ (Str.ofString "end" ≠ Str.ofString "stop") ∧ (Str.ofString "end" ≠ Str.ofString "refuse") ∧ (Str.ofString "end" ≠ Str.ofString "") ∧ (Str.ofString "stop" ≠ Str.ofString "keep") ∧ (Str.ofString "stop" ≠ Str.ofString "check") ∧ (Str.ofString "stop" ≠ Str.ofString "skip") ∧ (Str.ofString "stop" ≠ Str.ofString "end") ∧ (Str.ofString "stop" ≠ Str.ofString "refuse") ∧ (Str.ofString "stop" ≠ Str.ofString "") ∧ (Str.ofString "refuse" ≠ Str.ofString "keep") ∧ (Str.ofString "refuse" ≠ Str.ofString "check") ∧ (Str.ofString "refuse" ≠ Str.ofString "skip") ∧ (Str.ofString "refuse" ≠ Str.ofString "end") ∧ (Str.ofString "refuse" ≠ Str.ofString "stop") ∧ (Str.ofString "refuse" ≠ Str.ofString "") ∧ (Str.ofString "" ≠ Str.ofString "keep") ∧ (Str.ofString "" ≠ Str.ofString "check") ∧ (Str.ofString "" ≠ Str.ofString "skip") ∧ (Str.ofString "" ≠ Str.ofString "end") ∧ (Str.ofString "" ≠ Str.ofString "stop") ∧ (Str.ofString "" ≠ Str.ofString "refuse") ∧ (Str.ofString "one" ≠ Str.ofString "high") ∧ (Str.ofString "one" ≠ Str.ofString "low") ∧ (Str.ofString "high" ≠ Str.ofString "one") ∧ (Str.ofString "high" ≠ Str.ofString "low") ∧ (Str.ofString "low" ≠ Str.ofString "one") ∧ (Str.ofString "low" ≠ Str.ofString "high") ∧ (Str.ofString "head" ≠ Str.ofString "tag") ∧ (Str.ofString "head" ≠ Str.ofString "length") ∧ (Str.ofString "head" ≠ Str.ofString "second") ∧ (Str.ofString "head" ≠ Str.ofString "body") ∧ (Str.ofString "head" ≠ Str.ofString "sum") ∧ (Str.ofString "head" ≠ Str.ofString "room") ∧ (Str.ofString "head" ≠ Str.ofString "over") ∧ (Str.ofString "tag" ≠ Str.ofString "head") ∧ (Str.ofString "tag" ≠ Str.ofString "length") ∧ (Str.ofString "tag" ≠ Str.ofString "second") ∧ (Str.ofString "tag" ≠ Str.ofString "body") ∧ (Str.ofString "tag" ≠ Str.ofString "sum") ∧ (Str.ofString "tag" ≠ Str.ofString "room") ∧ (Str.ofString "tag" ≠ Str.ofString "over") ∧ (Str.ofString "length" ≠ Str.ofString "head") ∧ (Str.ofString "length" ≠ Str.ofString "tag") ∧ (Str.ofString "length" ≠ Str.ofString "second") ∧ (Str.ofString "length" ≠ Str.ofString "body") ∧ (Str.ofString "length" ≠ Str.ofString "sum") ∧ (Str.ofString "length" ≠ Str.ofString "room") ∧ (Str.ofString "length" ≠ Str.ofString "over") ∧ (Str.ofString "second" ≠ Str.ofString "head") ∧ (Str.ofString "second" ≠ Str.ofString "tag") ∧ (Str.ofString "second" ≠ Str.ofString "length") ∧ (Str.ofString "second" ≠ Str.ofString "body") ∧ (Str.ofString "second" ≠ Str.ofString "sum") ∧ (Str.ofString "second" ≠ Str.ofString "room") ∧ (Str.ofString "second" ≠ Str.ofString "over") ∧ (Str.ofString "body" ≠ Str.ofString "head") ∧ (Str.ofString "body" ≠ Str.ofString "tag") ∧ (Str.ofString "body" ≠ Str.ofString "length") ∧ (Str.ofString "body" ≠ Str.ofString "second") ∧ (Str.ofString "body" ≠ Str.ofString "sum") ∧ (Str.ofString "body" ≠ Str.ofString "room") ∧ (Str.ofString "body" ≠ Str.ofString "over") ∧ (Str.ofString "sum" ≠ Str.ofString "head") ∧ (Str.ofString "sum" ≠ Str.ofString "tag") ∧ (Str.ofString "sum" ≠ Str.ofString "length") ∧ (Str.ofString "sum" ≠ Str.ofString "second") ∧ (Str.ofString "sum" ≠ Str.ofString "body") ∧ (Str.ofString "sum" ≠ Str.ofString "room") ∧ (Str.ofString "sum" ≠ Str.ofString "over") ∧ (Str.ofString "room" ≠ Str.ofString "head") ∧ (Str.ofString "room" ≠ Str.ofString "tag") ∧ (Str.ofString "room" ≠ Str.ofString "length") ∧ (Str.ofString "room" ≠ Str.ofString "second") ∧ (Str.ofString "room" ≠ Str.ofString "body") ∧ (Str.ofString "room" ≠ Str.ofString "sum") ∧ (Str.ofString "room" ≠ Str.ofString "over") ∧ (Str.ofString "over" ≠ Str.ofString "head") ∧ (Str.ofString "over" ≠ Str.ofString "tag") ∧ (Str.ofString "over" ≠ Str.ofString "length") ∧ (Str.ofString "over" ≠ Str.ofString "second") ∧ (Str.ofString "over" ≠ Str.ofString "body") ∧ (Str.ofString "over" ≠ Str.ofString "sum") ∧ (Str.ofString "over" ≠ Str.ofString "room") ∧ (Str.ofString "head" ≠ Str.ofString "check") ∧ (Str.ofString "head" ≠ Str.ofString "behind") ∧ (Str.ofString "head" ≠ Str.ofString "short") ∧ (Str.ofString "tag" ≠ Str.ofString "check") ∧ (Str.ofString "tag" ≠ Str.ofString "behind") ∧ (Str.ofString "tag" ≠ Str.ofString "short") ∧ (Str.ofString "length" ≠ Str.ofString "check") ∧ (Str.ofString "length" ≠ Str.ofString "behind") ∧ (Str.ofString "length" ≠ Str.ofString "short") ∧ (Str.ofString "check" ≠ Str.ofString "head") ∧ (Str.ofString "check" ≠ Str.ofString "tag") ∧ (Str.ofString "check" ≠ Str.ofString "length") ∧ (Str.ofString "check" ≠ Str.ofString "behind") ∧ (Str.ofString "check" ≠ Str.ofString "short") ∧ (Str.ofString "behind" ≠ Str.ofString "head") ∧ (Str.ofString "behind" ≠ Str.ofString "tag") ∧ (Str.ofString "behind" ≠ Str.ofString "length") ∧ (Str.ofString "behind" ≠ Str.ofString "check") ∧ (Str.ofString "behind" ≠ Str.ofString "short") ∧ (Str.ofString "short" ≠ Str.ofString "head") ∧ (Str.ofString "short" ≠ Str.ofString "tag") ∧ (Str.ofString "short" ≠ Str.ofString "length") ∧ (Str.ofString "short" ≠ Str.ofString "check") ∧ (Str.ofString "short" ≠ Str.ofString "behind") := ⟨by decide +kernel, by decide +kernel, by decide +kernel, by decide +kernel, by decide +kernel, by decide +kernel, by decide +kernel, by decide +kernel, by decide +kernel, by decide +kernel, by decide +kernel, by decide +kernel, by decide +kernel, by decide +kernel, by decide +kernel, by decide +kernel, by decide +kernel, by decide +kernel, by decide +kernel, by decide +kernel, by decide +kernel, by decide +kernel, by decide +kernel, by decide +kernel, by decide +kernel, by decide +kernel, by decide +kernel, by decide +kernel, by decide +kernel, by decide +kernel, by decide +kernel, by decide +kernel, by decide +kernel, by decide +kernel, by decide +kernel, by decide +kernel, by decide +kernel, by decide +kernel, by decide +kernel, by decide +kernel, by decide +kernel, by decide +kernel, by decide +kernel, by decide +kernel, by decide +kernel, by decide +kernel, by decide +kernel, by decide +kernel, by decide +kernel, by decide +kernel, by decide +kernel, by decide +kernel, by decide +kernel, by decide +kernel, by decide +kernel, by decide +kernel, by decide +kernel, by decide +kernel, by decide +kernel, by decide +kernel, by decide +kernel, by decide +kernel, by decide +kernel, by decide +kernel, by decide +kernel, by decide +kernel, by decide +kernel, by decide +kernel, by decide +kernel, by decide +kernel, by decide +kernel, by decide +kernel, by decide +kernel, by decide +kernel, by decide +kernel, by decide +kernel, by decide +kernel, by decide +kernel, by decide +kernel, by decide +kernel, by decide +kernel, by decide +kernel, by decide +kernel, by decide +kernel, by decide +kernel, by decide +kernel, by decide +kernel, by decide +kernel, by decide +kernel, by decide +kernel, by decide +kernel, by decide +kernel, by decide +kernel, by decide +kernel, by decide +kernel, by decide +kernel, by decide +kernel, by decide +kernel, by decide +kernel, by decide +kernel, by decide +kernel, by decide +kernel, by decide +kernel, by decide +kernel, by decide +kernel, by decide +kernel, by decide +kernel, by decide +kernel, by decide +kernel, by decide +kernel, by decide +kernel, by decide +kernel, by decide +kernel, by decide +kernel, by decide +kernel, by decide +kernel, by decide +kernel, by decide +kernel, by decide +kernel, by decide +kernel, by decide +kernel, by decide +kernel, by decide +kernel, by decide +kernel, by decide +kernel, by decide +kernel, by decide +kernel, by decide +kernel⟩

theorem gIn_t {n : Bool} {x : D} {ds : List D} (h : flatD x = true ∧ ds.all flatD = true) : gIn n x (.tup ds) = some (.d (.bl ((ds.any fun y => eqF y x) != n))) := if_pos h
theorem eqF_s {a b : Str} : eqF (.str a) (.str b) = decide (a = b) := by
  show (a == b) = decide (a = b)
  exact Bool.beq_eq_decide_eq a b
theorem eqF_i {a b : Int} : eqF (.int a) (.int b) = decide (a = b) := by
  show (a == b) = decide (a = b)
  exact Bool.beq_eq_decide_eq a b
theorem eqF_n {b : Int} : eqF .non (.int b) = false := rfl
theorem gIsi_i : gIsi (.int a) (.op (.ty "int")) = some (.d (.bl true)) ∧ gIsi (.int a) (.op (.ty "bool")) = some (.d (.bl false)) ∧ gIsi (.int a) (.op (.ty "list")) = some (.d (.bl false)) ∧ gIsi (.int a) (.op (.ty "tuple")) = some (.d (.bl false)) ∧ gIsi (.int a) (.op (.ty "str")) = some (.d (.bl false)) := ⟨rfl, rfl, rfl, rfl, rfl⟩
theorem gIsi_b : gIsi (.bl a) (.op (.ty "int")) = some (.d (.bl true)) ∧ gIsi (.bl a) (.op (.ty "bool")) = some (.d (.bl true)) ∧ gIsi (.bl a) (.op (.ty "list")) = some (.d (.bl false)) ∧ gIsi (.bl a) (.op (.ty "tuple")) = some (.d (.bl false)) ∧ gIsi (.bl a) (.op (.ty "str")) = some (.d (.bl false)) := ⟨rfl, rfl, rfl, rfl, rfl⟩
theorem gIsi_t : gIsi (.tup a) (.op (.ty "int")) = some (.d (.bl false)) ∧ gIsi (.tup a) (.op (.ty "bool")) = some (.d (.bl false)) ∧ gIsi (.tup a) (.op (.ty "list")) = some (.d (.bl false)) ∧ gIsi (.tup a) (.op (.ty "tuple")) = some (.d (.bl true)) ∧ gIsi (.tup a) (.op (.ty "str")) = some (.d (.bl false)) := ⟨rfl, rfl, rfl, rfl, rfl⟩
theorem gIsi_s : gIsi (.str a) (.op (.ty "int")) = some (.d (.bl false)) ∧ gIsi (.str a) (.op (.ty "bool")) = some (.d (.bl false)) ∧ gIsi (.str a) (.op (.ty "list")) = some (.d (.bl false)) ∧ gIsi (.str a) (.op (.ty "tuple")) = some (.d (.bl false)) ∧ gIsi (.str a) (.op (.ty "str")) = some (.d (.bl true)) := ⟨rfl, rfl, rfl, rfl, rfl⟩
theorem gIsi_n : gIsi .non (.op (.ty "int")) = some (.d (.bl false)) ∧ gIsi .non (.op (.ty "bool")) = some (.d (.bl false)) ∧ gIsi .non (.op (.ty "list")) = some (.d (.bl false)) ∧ gIsi .non (.op (.ty "tuple")) = some (.d (.bl false)) ∧ gIsi .non (.op (.ty "str")) = some (.d (.bl false)) := ⟨rfl, rfl, rfl, rfl, rfl⟩
theorem gIsi_l : gIsi (.lst a) (.op (.ty "int")) = some (.d (.bl false)) ∧ gIsi (.lst a) (.op (.ty "bool")) = some (.d (.bl false)) ∧ gIsi (.lst a) (.op (.ty "list")) = some (.d (.bl true)) ∧ gIsi (.lst a) (.op (.ty "tuple")) = some (.d (.bl false)) ∧ gIsi (.lst a) (.op (.ty "str")) = some (.d (.bl false)) := ⟨rfl, rfl, rfl, rfl, rfl⟩
theorem gIs_c {n : Bool} : gIs n .non .non = some (.d (.bl (true != n))) ∧ (∀ i, gIs n (.int i) .non = some (.d (.bl (false != n)))) ∧ (∀ i, gIs n (.str i) .non = some (.d (.bl (false != n)))) ∧ (∀ i, gIs n (.tup i) .non = some (.d (.bl (false != n)))) ∧ (∀ i, gIs n (.lst i) .non = some (.d (.bl (false != n)))) ∧ (∀ i, gIs n (.bl i) .non = some (.d (.bl (false != n)))) := by
  refine ⟨rfl, fun _ => rfl, fun _ => rfl, fun _ => rfl, fun _ => rfl, fun _ => rfl⟩
def mkD : Option Int → D | none => .non | some k => .int k
theorem mkD_n : mkD none = .non := rfl
theorem mkD_s {k : Int} : mkD (some k) = .int k := rfl
theorem nc_0 : ((0 : Nat) : Int) = 0 ∧ ((1 : Nat) : Int) = 1 ∧ ((2 : Nat) : Int) = 2 ∧ ((3 : Nat) : Int) = 3 ∧ ((4 : Nat) : Int) = 4 ∧ ((5 : Nat) : Int) = 5 ∧ ((6 : Nat) : Int) = 6 ∧ ((7 : Nat) : Int) = 7 := ⟨rfl, rfl, rfl, rfl, rfl, rfl, rfl, rfl⟩
theorem dcs : dc_BASE = .int 0 ∧ dc_HEAD = .int 1 ∧ dc_MOST = .int 3 ∧ dc_WIDTH = .int 2 ∧ dc_OTHERS = .int 5 ∧ dc_TAGS = .int 4 ∧ dc_TAG = .tup [.str "tag"] ∧ dc_OVER = .tup [.str "over"] ∧ dc_ROOM = .tup [.str "room"] := ⟨rfl, rfl, rfl, rfl, rfl, rfl, rfl, rfl, rfl⟩
theorem rg_len {lo : Int} {n : Nat} : (rgD lo n).length = n := by unfold rgD; simp
theorem kN1_i {j : Int} {ρ : Ev} (h : 0 ≤ j ∧ j ≤ 16777216) : kN1 (some (some j, ρ)) = some (rgD 0 j.toNat, ρ) := kN1_s (by omega)
theorem kN1_u {n : Nat} {ρ : Ev} (h : n ≤ 16777216) : kN1 (some (some (n : Int), ρ)) = some (rgD 0 n, ρ) := kN1_s (by omega)
theorem kN3_u {n : Nat} {ρ : Ev} (h : n ≤ 16777216) : kN3 (some 1) (some (some (n : Int), ρ)) = some (rgD 1 ((n : Int) - 1).toNat, ρ) := kN3_s (by omega)
/-! ### the package's own sides -/
inductive Wd | one | high | low
def Wd.s : Wd → D | .one => .str "one" | .high => .str "high" | .low => .str "low"
inductive Us | keep | check | skip | fin | stop
def Us.s : Us → D | .keep => .str "keep" | .check => .str "check" | .skip => .str "skip" | .fin => .str "end" | .stop => .str "stop"
inductive Ot | skip | refuse
def Ot.s : Ot → D | .skip => .str "skip" | .refuse => .str "refuse"
structure Frm where
  base : Int
  head : List (Option Int)
  width : Wd
  most : Int
  tags : List (Int × Us)
  others : Ot
def tgD (t : Int × Us) : D := .tup [.int t.1, t.2.s]
def Frm.d (f : Frm) : D := .tup [.int f.base, .tup (f.head.map mkD), f.width.s, .int f.most, .tup (f.tags.map tgD), f.others.s]
structure Frm.Ok (f : Frm) : Prop where
  b0 : 2 ≤ f.base
  b1 : f.base ≤ 256
  hd : ∀ k, some k ∈ f.head → 0 ≤ k ∧ k < f.base
  hl : f.head.length ≤ 1000
  m0 : 0 ≤ f.most
  m1 : f.most ≤ 65535
  tg : ∀ t ∈ f.tags, 0 ≤ t.1 ∧ t.1 < f.base
  as : f.tags.Pairwise fun a b => a.1 < b.1
  tl : f.tags.length ≤ 1000
def fileD (xs : List Int) : D := .tup (xs.map D.int)
theorem fd_ix {f : Frm} {i : Int} : gIx f.d (.int i) = kIx (atI [.int f.base, .tup (f.head.map mkD), f.width.s, .int f.most, .tup (f.tags.map tgD), f.others.s] i) := rfl
theorem fi_ix {xs : List Int} {i : Int} : gIx (fileD xs) (.int i) = kIx (atI (xs.map D.int) i) := rfl
theorem fi_len {xs : List Int} : gLen (fileD xs) = some (.d (.int xs.length)) := by unfold fileD; rw [gLen_t, List.length_map]
theorem fi_it {xs : List Int} {ρ : Ev} : kI2 (some (fileD xs, ρ)) = some (xs.map D.int, ρ) := rfl
local macro_rules | `(tactic| walk_at "ev") => `(tactic| simp only [kRet_s, ev_name, ev_c, nm_val, nm_own, nm_bor, der_d, der_nw, der_sl, sl_own, sl_bor, sl_val, ev_bin, kBin_s, kBin2_s, kBin3_s, kBin4_s, ev_b1, kOne_s, kOne2_s, kRetD_s, ev_un, kUn1_s, kUn12_s, gNeg_i, ev_test, kTst_s, ev_and, ev_or, ev_not, kAnd_t, kAnd_f, kOr_t, kOr_f, kNot_s, ev_notV, kBl_s, ev_andV, ev_orV, kAndV_t, kAndV_f, kOrV_t, kOrV_f, ev_if, kIfE_t, kIfE_f, ev_yes, ev_ch, kCh_s, kCh2_s, kCh3_s, kCh4_s, kCh5_t, kCh5_f, ev_nil, ev_cons, kC1_s, kC2_s, ev_rev, kRv_s, escs_nil, escs_cons, kX1_s, kX2_s, esc_d, esc_nw, esc_sl, escS_own, escS_val, ev_tup, kT1_s, kT2_s, ev_lst, kL1_s, kL2_s, ev_pno, ev_pzero, ev_pint, kPI_s, ev_sl, kS1_s, kS2_s, kS3_s, kS4_s, ev_lrg, kR1_s, kR2_s, ev_call, kF1_s, kF2_s, kF3_s, ders_nil, ders_cons, kD1_s, kD2_s, rt_d, rt_nw, ev_call1, kG1_s, kG2_s, kG3_s, kG4_s, ow_own, ow_bor, put_own, put_bor, ev_iseq, kI1_s, kI2_t, kI2_l, kI2_f, ev_irg1, kN1_u, kN1_i, ev_irg2, kN2_s, kN3_u, ev_lc, kV1_s, kV2_s, ev_seq, kSeq_n, kSeq_r, kSeq_b, kSeq_c, ev_skip, ev_break, ev_cont, ev_retN, ev_ret, kRt_s, ev_sif, kIf_t, kIf_f, ev_drop, kDr_s, ev_set, kSt_s, kSt2_s, ev_own, kOw_s, ev_unp, kUn_s, kUn2_s, kNx_s, bt_nm, bt_tp, sa_nil, sa_cons, ev_par, kPa_s, sp_nil, sp_own, sp_val, ev_app, kAp_s, kAp2_s, kAp3_s, kAp4_s, ev_sti, kSi_s, kSi2_s, kSi3_s, kSi4_s, kSi5_s, kSi6_s, ev_aug, kAg_s, kAg2_s, val_s, ev_for, kFo_s, loop_nil, loop_cons, kLp_s, kLp_n, kLp_c, kLp_b, kLp_r, ev_while, while_s, kWh_f, kWh_t, kWh_n, kWh_c, kWh_b, kWh_r, lc_nil, lc_cons, kLc1_s, kLc2_t, kLc2_f, kLc3_s, kLc4_s, run0_k, kE0_r, kE0_n, rtOf_d, rtOf_nw, rtOf_sl, rtS_own, run1_k, kE1_r, kE1_n, kE2_s, bor_s, gAdd_i, gAdd_l, gAdd_t, gSub_i, gMul_i, gMod_i, gDiv_i, gPow_i, gEq_i, gEq_s, gEq_b, gCmp_i, gIs_n, gInt_i, gInt_b, gMax_i, gMin_i, gAbs_i, gTup_t, gTup_l, gLen_t, gLen_l, gLen_f, gIx_t, gIx_l, gIx_f, kIx_s, at_0, at_1, at_2, at_3, at_4, at_5, gSl_t, gSl_l,
  List.map_cons, List.map_nil, List.cons_append, List.nil_append, List.append_nil, List.length_cons, List.length_nil, List.replicate_succ, List.replicate_zero, Nat.reduceSub, Nat.reduceAdd, List.getElem?_cons_zero, List.getElem?_cons_succ, List.getElem?_nil, List.set_cons_zero, List.set_cons_succ, List.set_nil, Nat.zero_add, Nat.add_zero,
  List.all_cons, List.all_nil, notSl, Bool.and_true, Bool.true_and, Bool.or_true, Bool.true_or, Bool.and_false, Bool.false_and, Bool.or_false, Bool.false_or, if_true, if_false, Bool.false_eq_true, reduceIte, Bool.not_true, Bool.not_false, Bool.bne_true, Bool.bne_false, decide_true, decide_false, wipeE, backE, backS, nc_0, List.length_map, rg_len, Nat.reduceLeDiff, fd_ix, fi_ix, fi_len, fi_it, dcs, eq_self, Int.reduceEq, Int.reduceLT, Int.reduceLE, Int.reduceAdd, Int.reduceSub, Int.reduceMul, Int.reduceToNat, gIs_c, mkD_n, mkD_s, items, and_true, true_and, and_self, bne_self_eq_false, wt, gIn_t, gIsi_i, gIsi_t, gIsi_s, gIsi_n, gIsi_b, flatD, eqF_s, eqF_i, eqF_n, List.any_cons, List.any_nil, Rt.o, Option.bind_some, phi0_s, phi1_s, List.reverse_cons, List.reverse_nil, decide_eq_true_eq, *])
theorem int_ok {i : Int} : phi_is_integer [.int i] = some (.d (.bl true)) := by
  unfold phi_is_integer g_is_integer
  walk_at "ev"
theorem sign_ok {i b : Int} (h0 : 0 ≤ i) (h1 : i < b) : phi_is_sign [.int i, .int b] = some (.d (.bl true)) := by
  have e := int_ok (i := i)
  unfold phi_is_sign g_is_sign
  walk_at "ev"
theorem word_use (u : Us) : phi__is_word [u.s, dc_USES] = some (.d (.bl true)) := by
  unfold phi__is_word g__is_word dc_USES
  cases u <;> (unfold Us.s; walk_at "ev")
theorem word_wide (u : Wd) : phi__is_word [u.s, dc_WIDTHS] = some (.d (.bl true)) := by
  unfold phi__is_word g__is_word dc_WIDTHS
  cases u <;> (unfold Wd.s; walk_at "ev")
theorem word_other (u : Ot) : phi__is_word [u.s, .tup [.str "skip", .str "refuse"]] = some (.d (.bl true)) := by
  unfold phi__is_word g__is_word
  cases u <;> (unfold Ot.s; walk_at "ev")
end Dv

set_option Elab.async false
set_option linter.all false
set_option maxRecDepth 100000
set_option maxHeartbeats 4000000
namespace Dv
open PySem PySem.Spec PyProof.Rows L2
local macro_rules | `(tactic| walk_at "ev") => `(tactic| simp only [kRet_s, ev_name, ev_c, nm_val, nm_own, nm_bor, der_d, der_nw, der_sl, sl_own, sl_bor, sl_val, ev_bin, kBin_s, kBin2_s, kBin3_s, kBin4_s, ev_b1, kOne_s, kOne2_s, kRetD_s, ev_un, kUn1_s, kUn12_s, gNeg_i, ev_test, kTst_s, ev_and, ev_or, ev_not, kAnd_t, kAnd_f, kOr_t, kOr_f, kNot_s, ev_notV, kBl_s, ev_andV, ev_orV, kAndV_t, kAndV_f, kOrV_t, kOrV_f, ev_if, kIfE_t, kIfE_f, ev_yes, ev_ch, kCh_s, kCh2_s, kCh3_s, kCh4_s, kCh5_t, kCh5_f, ev_nil, ev_cons, kC1_s, kC2_s, ev_rev, kRv_s, escs_nil, escs_cons, kX1_s, kX2_s, esc_d, esc_nw, esc_sl, escS_own, escS_val, ev_tup, kT1_s, kT2_s, ev_lst, kL1_s, kL2_s, ev_pno, ev_pzero, ev_pint, kPI_s, ev_sl, kS1_s, kS2_s, kS3_s, kS4_s, ev_lrg, kR1_s, kR2_s, ev_call, kF1_s, kF2_s, kF3_s, ders_nil, ders_cons, kD1_s, kD2_s, rt_d, rt_nw, ev_call1, kG1_s, kG2_s, kG3_s, kG4_s, ow_own, ow_bor, put_own, put_bor, ev_iseq, kI1_s, kI2_t, kI2_l, kI2_f, ev_irg1, kN1_u, kN1_i, ev_irg2, kN2_s, kN3_u, ev_lc, kV1_s, kV2_s, ev_seq, kSeq_n, kSeq_r, kSeq_b, kSeq_c, ev_skip, ev_break, ev_cont, ev_retN, ev_ret, kRt_s, ev_sif, kIf_t, kIf_f, ev_drop, kDr_s, ev_set, kSt_s, kSt2_s, ev_own, kOw_s, ev_unp, kUn_s, kUn2_s, kNx_s, bt_nm, bt_tp, sa_nil, sa_cons, ev_par, kPa_s, sp_nil, sp_own, sp_val, ev_app, kAp_s, kAp2_s, kAp3_s, kAp4_s, ev_sti, kSi_s, kSi2_s, kSi3_s, kSi4_s, kSi5_s, kSi6_s, ev_aug, kAg_s, kAg2_s, val_s, ev_for, kFo_s, loop_nil, loop_cons, kLp_s, kLp_n, kLp_c, kLp_b, kLp_r, ev_while, while_s, kWh_f, kWh_t, kWh_n, kWh_c, kWh_b, kWh_r, lc_nil, lc_cons, kLc1_s, kLc2_t, kLc2_f, kLc3_s, kLc4_s, run0_k, kE0_r, kE0_n, rtOf_d, rtOf_nw, rtOf_sl, rtS_own, run1_k, kE1_r, kE1_n, kE2_s, bor_s, gAdd_i, gAdd_l, gAdd_t, gSub_i, gMul_i, gMod_i, gDiv_i, gPow_i, gEq_i, gEq_s, gEq_b, gCmp_i, gIs_n, gInt_i, gInt_b, gMax_i, gMin_i, gAbs_i, gTup_t, gTup_l, gLen_t, gLen_l, gLen_f, gIx_t, gIx_l, gIx_f, kIx_s, at_0, at_1, at_2, at_3, at_4, at_5, gSl_t, gSl_l,
  List.map_cons, List.map_nil, List.cons_append, List.nil_append, List.append_nil, List.length_cons, List.length_nil, List.replicate_succ, List.replicate_zero, Nat.reduceSub, Nat.reduceAdd, List.getElem?_cons_zero, List.getElem?_cons_succ, List.getElem?_nil, List.set_cons_zero, List.set_cons_succ, List.set_nil, Nat.zero_add, Nat.add_zero,
  List.all_cons, List.all_nil, notSl, Bool.and_true, Bool.true_and, Bool.or_true, Bool.true_or, Bool.and_false, Bool.false_and, Bool.or_false, Bool.false_or, if_true, if_false, Bool.false_eq_true, reduceIte, Bool.not_true, Bool.not_false, Bool.bne_true, Bool.bne_false, decide_true, decide_false, wipeE, backE, backS, nc_0, List.length_map, rg_len, Nat.reduceLeDiff, fd_ix, fi_ix, fi_len, fi_it, dcs, eq_self, Int.reduceEq, Int.reduceLT, Int.reduceLE, Int.reduceAdd, Int.reduceSub, Int.reduceMul, Int.reduceToNat, gIs_c, mkD_n, mkD_s, items, and_true, true_and, and_self, bne_self_eq_false, wt, gIn_t, gIsi_i, gIsi_t, gIsi_s, gIsi_n, gIsi_b, flatD, eqF_s, eqF_i, eqF_n, List.any_cons, List.any_nil, Rt.o, Option.bind_some, phi0_s, phi1_s, List.reverse_cons, List.reverse_nil, decide_eq_true_eq, *])
/-! ### comprehensions, loops -/
theorem lc_gen {t : Tg} {ft : FT} {fe : FE} {vs : List Nat} {ρ : Ev} {f : D → List D} (hf : ∀ d, (f d).length ≤ 1) : ∀ {ds acc : List D},
    (∀ d ∈ ds, ∀ ds' acc, acc.length < 16777216 → lcD t ft fe vs (d :: ds') ρ acc = lcD t ft fe vs ds' ρ (acc ++ f d)) → acc.length + ds.length ≤ 16777216 →
    lcD t ft fe vs ds ρ acc = some (acc ++ ds.flatMap f, ρ)
  | [], acc, _, _ => by rw [lc_nil, List.flatMap_nil, List.append_nil]
  | d :: ds, acc, h, hl => by
    rw [List.length_cons] at hl
    rw [h d (by simp) ds acc (by omega), lc_gen hf (fun d hd => h d (by simp [hd])) (by rw [List.length_append]; have := hf d; omega), List.flatMap_cons, List.append_assoc]
theorem lc_map {t : Tg} {ft : FT} {fe : FE} {vs : List Nat} {ρ : Ev} {f : D → D} {ds : List D} (h : ∀ d ∈ ds, ∀ ds' acc, acc.length < 16777216 → lcD t ft fe vs (d :: ds') ρ acc = lcD t ft fe vs ds' ρ (acc ++ [f d])) (hl : ds.length ≤ 16777216) :
    lcD t ft fe vs ds ρ [] = some (ds.map f, ρ) := by
  rw [lc_gen (f := fun d => [f d]) (fun _ => by simp) h (by simpa using hl), List.nil_append]
  congr 2
  induction ds with
  | nil => rfl
  | cons d ds ih => rw [List.flatMap_cons, List.map_cons, ih (fun d hd => h d (by simp [hd])) (by simp at hl; omega)]; rfl
  
theorem bls_true : ∀ n, blsD (List.replicate n (.bl true)) = some (List.replicate n true)
  | 0 => rfl
  | n + 1 => by rw [List.replicate_succ, blsD, bls_true n]; rfl
theorem all_true {n : Nat} : gAll (.lst (List.replicate n (.bl true))) = some (.d (.bl true)) := by
  show ((blsD _).bind fun ns => some (Opd.d (.bl (ns.all _root_.id)))) = _
  rw [bls_true, Option.bind_some]
  congr 3
  simp
theorem lc_true {t : Tg} {ft : FT} {fe : FE} {vs : List Nat} {ρ : Ev} {ds : List D} (h : ∀ d ∈ ds, ∀ ds' acc, acc.length < 16777216 → lcD t ft fe vs (d :: ds') ρ acc = lcD t ft fe vs ds' ρ (acc ++ [.bl true])) (hl : ds.length ≤ 16777216) :
    lcD t ft fe vs ds ρ [] = some (List.replicate ds.length (.bl true), ρ) := by
  rw [lc_map (f := fun _ => .bl true) h hl, List.map_const']
theorem rg_mem {d : D} {lo : Int} {n : Nat} (h : d ∈ rgD lo n) : ∃ j, j < n ∧ d = .int (lo + (j : Nat)) := by
  unfold rgD at h
  obtain ⟨j, h1, rfl⟩ := List.mem_map.mp h
  exact ⟨j, List.mem_range.mp h1, rfl⟩
theorem at_map {α β : Type} {g : α → β} {xs : List α} {k : Int} {x : α} (h0 : 0 ≤ k) (h : xs[k.toNat]? = some x) : atI (xs.map g) k = some (g x) := by
  have e : k = ((k.toNat : Nat) : Int) := by omega
  rw [e, at_cast, List.getElem?_map, h]; rfl
/-! ### formats and files are right -/
theorem head_ok {f : Frm} (o : f.Ok) : phi__is_head [.tup (f.head.map mkD), .int f.base] = some (.d (.bl true)) := by
  unfold phi__is_head g__is_head
  have e := lc_true (t := .nm 2) (ft := fYes) (fe := fOrV (fBin (gIs false) (fName 2) (fC .non)) (fCall phi_is_sign (aCons (fName 2) (aCons (fName 1) aNil)))) (vs := [2]) (ρ := [.val (.tup (f.head.map mkD)), .val (.int f.base), .un]) (ds := f.head.map mkD) (fun d hd ds' acc ha => by
    obtain ⟨x, hx, rfl⟩ := List.mem_map.mp hd
    cases x with
    | none => walk_at "ev"
    | some k =>
      have e := sign_ok (o.hd k hx).1 (o.hd k hx).2
      walk_at "ev") (by have := o.hl; simp; omega)
  have e2 := all_true (n := f.head.length)
  simp only [List.length_map] at e
  walk_at "ev"
theorem tag_ok {t : Int × Us} {b : Int} (h : 0 ≤ t.1 ∧ t.1 < b) : phi__is_tag [tgD t, .int b] = some (.d (.bl true)) := by
  have e := sign_ok h.1 h.2
  have e2 := word_use t.2
  unfold phi__is_tag g__is_tag tgD
  walk_at "ev"
abbrev tgE : FE := fBin (gCmp fun i j => decide (i < j)) (fBin gIx (fBin gIx (fName 0) (fBin gSub (fName 3) (fC (.int 1)))) (fC (.int 0))) (fBin gIx (fBin gIx (fName 0) (fName 3)) (fC (.int 0)))
theorem tags_1 {f : Frm} (o : f.Ok) : lcD (.nm 2) fYes (fCall phi__is_tag (aCons (fName 2) (aCons (fName 1) aNil))) [2] (f.tags.map tgD) [.val (.tup (f.tags.map tgD)), .val (.int f.base), .un, .un] [] = some (List.replicate f.tags.length (.bl true), [.val (.tup (f.tags.map tgD)), .val (.int f.base), .un, .un]) := by
  have hl := o.tl
  have e := lc_true (t := .nm 2) (ft := fYes) (fe := fCall phi__is_tag (aCons (fName 2) (aCons (fName 1) aNil))) (vs := [2]) (ρ := [.val (.tup (f.tags.map tgD)), .val (.int f.base), .un, .un]) (ds := f.tags.map tgD) (fun d hd ds' acc ha => by
    obtain ⟨x, hx, rfl⟩ := List.mem_map.mp hd
    have e := tag_ok (o.tg x hx)
    walk_at "ev") (by simp; omega)
  simpa only [List.length_map] using e
theorem tags_2 {f : Frm} (o : f.Ok) : lcD (.nm 3) fYes tgE [3] (rgD 1 ((f.tags.length : Int) - 1).toNat) [.val (.tup (f.tags.map tgD)), .val (.int f.base), .un, .un] [] = some (List.replicate ((f.tags.length : Int) - 1).toNat (.bl true), [.val (.tup (f.tags.map tgD)), .val (.int f.base), .un, .un]) := by
  have hl := o.tl
  have e := lc_true (t := .nm 3) (ft := fYes) (fe := tgE) (vs := [3]) (ρ := [.val (.tup (f.tags.map tgD)), .val (.int f.base), .un, .un]) (ds := rgD 1 ((f.tags.length : Int) - 1).toNat) (fun d hd ds' acc ha => by
    obtain ⟨j, hj, rfl⟩ := rg_mem hd
    have h1 : j < f.tags.length := by omega
    have h2 : j + 1 < f.tags.length := by omega
    have e1 : atI (f.tags.map tgD) (1 + (j : Int) - 1) = some (tgD f.tags[j]) := at_map (by omega) (by rw [show (1 + (j : Int) - 1).toNat = j by omega]; exact List.getElem?_eq_getElem h1)
    have e2 : atI (f.tags.map tgD) (1 + (j : Int)) = some (tgD f.tags[j + 1]) := at_map (by omega) (by rw [show (1 + (j : Int)).toNat = j + 1 by omega]; exact List.getElem?_eq_getElem h2)
    have e3 : f.tags[j].1 < f.tags[j + 1].1 := List.pairwise_iff_getElem.mp o.as _ _ h1 h2 (by omega)
    have e4 : ∀ t, tgD t = .tup [.int t.1, t.2.s] := fun _ => rfl
    unfold tgE
    walk_at "ev") (by rw [rg_len]; omega)
  rwa [rg_len] at e
theorem tags_ok {f : Frm} (o : f.Ok) : phi__are_tags [.tup (f.tags.map tgD), .int f.base] = some (.d (.bl true)) := by
  have e := tags_1 o
  have e4 := tags_2 o
  have e2 := all_true (n := f.tags.length)
  have e3 := all_true (n := ((f.tags.length : Int) - 1).toNat)
  have h5 : f.tags.length ≤ 16777216 := by have := o.tl; omega
  unfold tgE at e4
  unfold phi__are_tags g__are_tags
  walk_at "ev"
theorem form_ok {f : Frm} (o : f.Ok) : phi_is_format [f.d] = some (.d (.bl true)) := by
  have e0 : ∀ ρ : Ev, bindT (.tp [1, 2, 3, 4, 5, 6]) f.d ρ = setAll [1, 2, 3, 4, 5, 6] [.int f.base, .tup (f.head.map mkD), f.width.s, .int f.most, .tup (f.tags.map tgD), f.others.s] ρ := fun _ => rfl
  have e7 : gIsi f.d (.op (.ty "tuple")) = some (.d (.bl true)) := rfl
  have e8 : gLen f.d = some (.d (.int 6)) := rfl
  unfold phi_is_format g_is_format
  have e1 := int_ok (i := f.base)
  have e2 := int_ok (i := f.most)
  have e3 := head_ok o
  have e4 := tags_ok o
  have e5 := word_wide f.width
  have e6 := word_other f.others
  have b0 := o.b0
  have b1 := o.b1
  have b2 : ¬ f.most < 0 := by have := o.m0; omega
  walk_at "ev"
theorem cform_ok {f : Frm} (o : f.Ok) : phi_check_format [f.d] = some (.d .non) := by
  unfold phi_check_format g_check_format
  have e := form_ok o
  walk_at "ev"
end Dv

set_option Elab.async false
set_option linter.all false
set_option maxRecDepth 100000
set_option maxHeartbeats 4000000
namespace Dv
open PySem PySem.Spec PyProof.Rows L2
local macro_rules | `(tactic| walk_at "ev") => `(tactic| simp only [kRet_s, ev_name, ev_c, nm_val, nm_own, nm_bor, der_d, der_nw, der_sl, sl_own, sl_bor, sl_val, ev_bin, kBin_s, kBin2_s, kBin3_s, kBin4_s, ev_b1, kOne_s, kOne2_s, kRetD_s, ev_un, kUn1_s, kUn12_s, gNeg_i, ev_test, kTst_s, ev_and, ev_or, ev_not, kAnd_t, kAnd_f, kOr_t, kOr_f, kNot_s, ev_notV, kBl_s, ev_andV, ev_orV, kAndV_t, kAndV_f, kOrV_t, kOrV_f, ev_if, kIfE_t, kIfE_f, ev_yes, ev_ch, kCh_s, kCh2_s, kCh3_s, kCh4_s, kCh5_t, kCh5_f, ev_nil, ev_cons, kC1_s, kC2_s, ev_rev, kRv_s, escs_nil, escs_cons, kX1_s, kX2_s, esc_d, esc_nw, esc_sl, escS_own, escS_val, ev_tup, kT1_s, kT2_s, ev_lst, kL1_s, kL2_s, ev_pno, ev_pzero, ev_pint, kPI_s, ev_sl, kS1_s, kS2_s, kS3_s, kS4_s, ev_lrg, kR1_s, kR2_s, ev_call, kF1_s, kF2_s, kF3_s, ders_nil, ders_cons, kD1_s, kD2_s, rt_d, rt_nw, ev_call1, kG1_s, kG2_s, kG3_s, kG4_s, ow_own, ow_bor, put_own, put_bor, ev_iseq, kI1_s, kI2_t, kI2_l, kI2_f, ev_irg1, kN1_u, kN1_i, ev_irg2, kN2_s, kN3_u, ev_lc, kV1_s, kV2_s, ev_seq, kSeq_n, kSeq_r, kSeq_b, kSeq_c, ev_skip, ev_break, ev_cont, ev_retN, ev_ret, kRt_s, ev_sif, kIf_t, kIf_f, ev_drop, kDr_s, ev_set, kSt_s, kSt2_s, ev_own, kOw_s, ev_unp, kUn_s, kUn2_s, kNx_s, bt_nm, bt_tp, sa_nil, sa_cons, ev_par, kPa_s, sp_nil, sp_own, sp_val, ev_app, kAp_s, kAp2_s, kAp3_s, kAp4_s, ev_sti, kSi_s, kSi2_s, kSi3_s, kSi4_s, kSi5_s, kSi6_s, ev_aug, kAg_s, kAg2_s, val_s, ev_for, kFo_s, loop_nil, loop_cons, kLp_s, kLp_n, kLp_c, kLp_b, kLp_r, ev_while, while_s, kWh_f, kWh_t, kWh_n, kWh_c, kWh_b, kWh_r, lc_nil, lc_cons, kLc1_s, kLc2_t, kLc2_f, kLc3_s, kLc4_s, run0_k, kE0_r, kE0_n, rtOf_d, rtOf_nw, rtOf_sl, rtS_own, run1_k, kE1_r, kE1_n, kE2_s, bor_s, gAdd_i, gAdd_l, gAdd_t, gSub_i, gMul_i, gMod_i, gDiv_i, gPow_i, gEq_i, gEq_s, gEq_b, gCmp_i, gIs_n, gInt_i, gInt_b, gMax_i, gMin_i, gAbs_i, gTup_t, gTup_l, gLen_t, gLen_l, gLen_f, gIx_t, gIx_l, gIx_f, kIx_s, at_0, at_1, at_2, at_3, at_4, at_5, gSl_t, gSl_l,
  List.map_cons, List.map_nil, List.cons_append, List.nil_append, List.append_nil, List.length_cons, List.length_nil, List.replicate_succ, List.replicate_zero, Nat.reduceSub, Nat.reduceAdd, List.getElem?_cons_zero, List.getElem?_cons_succ, List.getElem?_nil, List.set_cons_zero, List.set_cons_succ, List.set_nil, Nat.zero_add, Nat.add_zero,
  List.all_cons, List.all_nil, notSl, Bool.and_true, Bool.true_and, Bool.or_true, Bool.true_or, Bool.and_false, Bool.false_and, Bool.or_false, Bool.false_or, if_true, if_false, Bool.false_eq_true, reduceIte, Bool.not_true, Bool.not_false, Bool.bne_true, Bool.bne_false, decide_true, decide_false, wipeE, backE, backS, nc_0, List.length_map, rg_len, Nat.reduceLeDiff, fd_ix, fi_ix, fi_len, fi_it, dcs, eq_self, Int.reduceEq, Int.reduceLT, Int.reduceLE, Int.reduceAdd, Int.reduceSub, Int.reduceMul, Int.reduceToNat, gIs_c, mkD_n, mkD_s, items, and_true, true_and, and_self, bne_self_eq_false, wt, gIn_t, gIsi_i, gIsi_t, gIsi_s, gIsi_n, gIsi_b, flatD, eqF_s, eqF_i, eqF_n, List.any_cons, List.any_nil, Rt.o, Option.bind_some, phi0_s, phi1_s, List.reverse_cons, List.reverse_nil, decide_eq_true_eq, *])
/-! ### the stands -/
inductive Std
  | head (k : Nat) | tag | length (u : Us) | second (u : Us) (first : Int) | body (u : Us) (left total : Int) | sum (t : Int) | room | over
def Std.d : Std → D
  | .head k => .tup [.str "head", .int k]
  | .tag => .tup [.str "tag"]
  | .length u => .tup [.str "length", u.s]
  | .second u a => .tup [.str "second", u.s, .int a]
  | .body u n t => .tup [.str "body", u.s, .int n, .int t]
  | .sum t => .tup [.str "sum", .int t]
  | .room => .tup [.str "room"]
  | .over => .tup [.str "over"]
def optD : Option Std → D | none => .non | some s => s.d
def useL : List (Int × Us) → Int → Option Us
  | [], _ => none
  | t :: ts, s => if t.1 = s then some t.2 else useL ts s
def othU : Ot → Option Us | .skip => some .skip | .refuse => none
def useOf (f : Frm) (s : Int) : Option Us := match useL f.tags s with | some u => some u | none => othU f.others
def behM (f : Frm) (k : Nat) : Std := if k < f.head.length then .head k else .tag
def behB (u : Us) (due : Int) : Std := match u with | .check => .sum due | _ => .tag
def behL (u : Us) (n : Int) : Std := if 0 < n then .body u n 0 else behB u 0
def tagS : Option Us → Option Std
  | none => none
  | some .fin => some .room
  | some .stop => some .over
  | some u => some (.length u)
def leastL (f : Frm) (s : Int) : Int := match f.width with | .high => s * f.base | _ => s
def bothL (f : Frm) (a s : Int) : Int := match f.width with | .high => a * f.base + s | _ => s * f.base + a
def addT (f : Frm) (u : Us) (t s : Int) : Int := match u with | .check => (t + s) % f.base | _ => t
def firstS (f : Frm) (u : Us) (s : Int) : Option Std := if f.most < leastL f s then none else match f.width with | .one => some (behL u s) | _ => some (.second u s)
def step (f : Frm) : Std → Int → Option Std
  | .head k, s => match f.head[k]? with
    | some (some m) => if m = s then some (behM f (k + 1)) else none
    | _ => some (behM f (k + 1))
  | .tag, s => tagS (useOf f s)
  | .length u, s => firstS f u s
  | .second u a, s => if f.most < bothL f a s then none else some (behL u (bothL f a s))
  | .body u n t, s => if 1 < n then some (.body u (n - 1) (addT f u t s)) else some (behB u (addT f u t s))
  | .sum t, s => if s = t then some .tag else none
  | .room, _ => some .room
  | .over, _ => none
/-- a stand of a format -/
def Std.Ok (f : Frm) : Std → Prop
  | .head k => k < f.head.length
  | .second _ a => 0 ≤ a ∧ a < f.base
  | _ => True
theorem mul_s {a b : Int} (ha : 0 ≤ a) (ha2 : a ≤ 400000) (hb : 0 ≤ b) (hb2 : b ≤ 400000) : gMul (.int a) (.int b) = some (.d (.int (a * b))) := by
  apply gMul_i
  have := Nat.log2_le_self a.natAbs
  have := Nat.log2_le_self b.natAbs
  omega
theorem bm_ok {f : Frm} {k : Nat} : phi_behind_marks [f.d, .int k] = some (.d (behM f k).d) := by
  unfold phi_behind_marks g_behind_marks behM
  by_cases h : k < f.head.length
  · have h2 : (k : Int) < f.head.length := by omega
    rw [if_pos h]
    unfold Std.d
    walk_at "ev"
  · have h2 : ¬ (k : Int) < f.head.length := by omega
    rw [if_neg h]
    unfold Std.d
    walk_at "ev"
theorem first_ok {f : Frm} : phi_first_stand [f.d] = some (.d (behM f 0).d) := by
  have e : phi_behind_marks [f.d, .int 0] = some (.d (behM f 0).d) := bm_ok (k := 0)
  unfold phi_first_stand g_first_stand
  walk_at "ev"
end Dv

set_option Elab.async false
set_option linter.all false
set_option maxRecDepth 100000
set_option maxHeartbeats 4000000
namespace Dv
open PySem PySem.Spec PyProof.Rows L2
local macro_rules | `(tactic| walk_at "ev") => `(tactic| simp only [kRet_s, ev_name, ev_c, nm_val, nm_own, nm_bor, der_d, der_nw, der_sl, sl_own, sl_bor, sl_val, ev_bin, kBin_s, kBin2_s, kBin3_s, kBin4_s, ev_b1, kOne_s, kOne2_s, kRetD_s, ev_un, kUn1_s, kUn12_s, gNeg_i, ev_test, kTst_s, ev_and, ev_or, ev_not, kAnd_t, kAnd_f, kOr_t, kOr_f, kNot_s, ev_notV, kBl_s, ev_andV, ev_orV, kAndV_t, kAndV_f, kOrV_t, kOrV_f, ev_if, kIfE_t, kIfE_f, ev_yes, ev_ch, kCh_s, kCh2_s, kCh3_s, kCh4_s, kCh5_t, kCh5_f, ev_nil, ev_cons, kC1_s, kC2_s, ev_rev, kRv_s, escs_nil, escs_cons, kX1_s, kX2_s, esc_d, esc_nw, esc_sl, escS_own, escS_val, ev_tup, kT1_s, kT2_s, ev_lst, kL1_s, kL2_s, ev_pno, ev_pzero, ev_pint, kPI_s, ev_sl, kS1_s, kS2_s, kS3_s, kS4_s, ev_lrg, kR1_s, kR2_s, ev_call, kF1_s, kF2_s, kF3_s, ders_nil, ders_cons, kD1_s, kD2_s, rt_d, rt_nw, ev_call1, kG1_s, kG2_s, kG3_s, kG4_s, ow_own, ow_bor, put_own, put_bor, ev_iseq, kI1_s, kI2_t, kI2_l, kI2_f, ev_irg1, kN1_u, kN1_i, ev_irg2, kN2_s, kN3_u, ev_lc, kV1_s, kV2_s, ev_seq, kSeq_n, kSeq_r, kSeq_b, kSeq_c, ev_skip, ev_break, ev_cont, ev_retN, ev_ret, kRt_s, ev_sif, kIf_t, kIf_f, ev_drop, kDr_s, ev_set, kSt_s, kSt2_s, ev_own, kOw_s, ev_unp, kUn_s, kUn2_s, kNx_s, bt_nm, bt_tp, sa_nil, sa_cons, ev_par, kPa_s, sp_nil, sp_own, sp_val, ev_app, kAp_s, kAp2_s, kAp3_s, kAp4_s, ev_sti, kSi_s, kSi2_s, kSi3_s, kSi4_s, kSi5_s, kSi6_s, ev_aug, kAg_s, kAg2_s, val_s, ev_for, kFo_s, loop_nil, loop_cons, kLp_s, kLp_n, kLp_c, kLp_b, kLp_r, ev_while, while_s, kWh_f, kWh_t, kWh_n, kWh_c, kWh_b, kWh_r, lc_nil, lc_cons, kLc1_s, kLc2_t, kLc2_f, kLc3_s, kLc4_s, run0_k, kE0_r, kE0_n, rtOf_d, rtOf_nw, rtOf_sl, rtS_own, run1_k, kE1_r, kE1_n, kE2_s, bor_s, gAdd_i, gAdd_l, gAdd_t, gSub_i, gMul_i, gMod_i, gDiv_i, gPow_i, gEq_i, gEq_s, gEq_b, gCmp_i, gIs_n, gInt_i, gInt_b, gMax_i, gMin_i, gAbs_i, gTup_t, gTup_l, gLen_t, gLen_l, gLen_f, gIx_t, gIx_l, gIx_f, kIx_s, at_0, at_1, at_2, at_3, at_4, at_5, gSl_t, gSl_l,
  List.map_cons, List.map_nil, List.cons_append, List.nil_append, List.append_nil, List.length_cons, List.length_nil, List.replicate_succ, List.replicate_zero, Nat.reduceSub, Nat.reduceAdd, List.getElem?_cons_zero, List.getElem?_cons_succ, List.getElem?_nil, List.set_cons_zero, List.set_cons_succ, List.set_nil, Nat.zero_add, Nat.add_zero,
  List.all_cons, List.all_nil, notSl, Bool.and_true, Bool.true_and, Bool.or_true, Bool.true_or, Bool.and_false, Bool.false_and, Bool.or_false, Bool.false_or, if_true, if_false, Bool.false_eq_true, reduceIte, Bool.not_true, Bool.not_false, Bool.bne_true, Bool.bne_false, decide_true, decide_false, wipeE, backE, backS, nc_0, List.length_map, rg_len, Nat.reduceLeDiff, fd_ix, fi_ix, fi_len, fi_it, dcs, eq_self, Int.reduceEq, Int.reduceLT, Int.reduceLE, Int.reduceAdd, Int.reduceSub, Int.reduceMul, Int.reduceToNat, gIs_c, mkD_n, mkD_s, items, and_true, true_and, and_self, bne_self_eq_false, wt, gIn_t, gIsi_i, gIsi_t, gIsi_s, gIsi_n, gIsi_b, flatD, eqF_s, eqF_i, eqF_n, List.any_cons, List.any_nil, Rt.o, Option.bind_some, phi0_s, phi1_s, List.reverse_cons, List.reverse_nil, decide_eq_true_eq, *])

/-! ### stands along a file -/
def beh (f : Frm) : Std → List Int → Option Std
  | st, [] => some st
  | st, x :: xs => match step f st x with | none => none | some s => beh f s xs
def alongF (f : Frm) : Std → List Int → List (Option Std)
  | st, [] => [some st]
  | st, x :: xs => some st :: match step f st x with | none => [none] | some s => alongF f s xs
end Dv

set_option Elab.async false
set_option linter.all false
set_option maxRecDepth 100000
set_option maxHeartbeats 4000000
namespace Dv
open PySem PySem.Spec PyProof.Rows L2
local macro_rules | `(tactic| walk_at "ev") => `(tactic| simp only [kRet_s, ev_name, ev_c, nm_val, nm_own, nm_bor, der_d, der_nw, der_sl, sl_own, sl_bor, sl_val, ev_bin, kBin_s, kBin2_s, kBin3_s, kBin4_s, ev_b1, kOne_s, kOne2_s, kRetD_s, ev_un, kUn1_s, kUn12_s, gNeg_i, ev_test, kTst_s, ev_and, ev_or, ev_not, kAnd_t, kAnd_f, kOr_t, kOr_f, kNot_s, ev_notV, kBl_s, ev_andV, ev_orV, kAndV_t, kAndV_f, kOrV_t, kOrV_f, ev_if, kIfE_t, kIfE_f, ev_yes, ev_ch, kCh_s, kCh2_s, kCh3_s, kCh4_s, kCh5_t, kCh5_f, ev_nil, ev_cons, kC1_s, kC2_s, ev_rev, kRv_s, escs_nil, escs_cons, kX1_s, kX2_s, esc_d, esc_nw, esc_sl, escS_own, escS_val, ev_tup, kT1_s, kT2_s, ev_lst, kL1_s, kL2_s, ev_pno, ev_pzero, ev_pint, kPI_s, ev_sl, kS1_s, kS2_s, kS3_s, kS4_s, ev_lrg, kR1_s, kR2_s, ev_call, kF1_s, kF2_s, kF3_s, ders_nil, ders_cons, kD1_s, kD2_s, rt_d, rt_nw, ev_call1, kG1_s, kG2_s, kG3_s, kG4_s, ow_own, ow_bor, put_own, put_bor, ev_iseq, kI1_s, kI2_t, kI2_l, kI2_f, ev_irg1, kN1_u, kN1_i, ev_irg2, kN2_s, kN3_u, ev_lc, kV1_s, kV2_s, ev_seq, kSeq_n, kSeq_r, kSeq_b, kSeq_c, ev_skip, ev_break, ev_cont, ev_retN, ev_ret, kRt_s, ev_sif, kIf_t, kIf_f, ev_drop, kDr_s, ev_set, kSt_s, kSt2_s, ev_own, kOw_s, ev_unp, kUn_s, kUn2_s, kNx_s, bt_nm, bt_tp, sa_nil, sa_cons, ev_par, kPa_s, sp_nil, sp_own, sp_val, ev_app, kAp_s, kAp2_s, kAp3_s, kAp4_s, ev_sti, kSi_s, kSi2_s, kSi3_s, kSi4_s, kSi5_s, kSi6_s, ev_aug, kAg_s, kAg2_s, val_s, ev_for, kFo_s, loop_nil, loop_cons, kLp_s, kLp_n, kLp_c, kLp_b, kLp_r, ev_while, while_s, kWh_f, kWh_t, kWh_n, kWh_c, kWh_b, kWh_r, lc_nil, lc_cons, kLc1_s, kLc2_t, kLc2_f, kLc3_s, kLc4_s, run0_k, kE0_r, kE0_n, rtOf_d, rtOf_nw, rtOf_sl, rtS_own, run1_k, kE1_r, kE1_n, kE2_s, bor_s, gAdd_i, gAdd_l, gAdd_t, gSub_i, gMul_i, gMod_i, gDiv_i, gPow_i, gEq_i, gEq_s, gEq_b, gCmp_i, gIs_n, gInt_i, gInt_b, gMax_i, gMin_i, gAbs_i, gTup_t, gTup_l, gLen_t, gLen_l, gLen_f, gIx_t, gIx_l, gIx_f, kIx_s, at_0, at_1, at_2, at_3, at_4, at_5, gSl_t, gSl_l,
  List.map_cons, List.map_nil, List.cons_append, List.nil_append, List.append_nil, List.length_cons, List.length_nil, List.replicate_succ, List.replicate_zero, Nat.reduceSub, Nat.reduceAdd, List.getElem?_cons_zero, List.getElem?_cons_succ, List.getElem?_nil, List.set_cons_zero, List.set_cons_succ, List.set_nil, Nat.zero_add, Nat.add_zero,
  List.all_cons, List.all_nil, notSl, Bool.and_true, Bool.true_and, Bool.or_true, Bool.true_or, Bool.and_false, Bool.false_and, Bool.or_false, Bool.false_or, if_true, if_false, Bool.false_eq_true, reduceIte, Bool.not_true, Bool.not_false, Bool.bne_true, Bool.bne_false, decide_true, decide_false, wipeE, backE, backS, nc_0, List.length_map, rg_len, Nat.reduceLeDiff, fd_ix, fi_ix, fi_len, fi_it, dcs, eq_self, Int.reduceEq, Int.reduceLT, Int.reduceLE, Int.reduceAdd, Int.reduceSub, Int.reduceMul, Int.reduceToNat, gIs_c, mkD_n, mkD_s, items, and_true, true_and, and_self, bne_self_eq_false, wt, gIn_t, gIsi_i, gIsi_t, gIsi_s, gIsi_n, gIsi_b, flatD, eqF_s, eqF_i, eqF_n, List.any_cons, List.any_nil, Rt.o, Option.bind_some, phi0_s, phi1_s, List.reverse_cons, List.reverse_nil, decide_eq_true_eq, *])
/-! ### the law's own sides: places -/
inductive Lo | ok (w : Int) (p : Nat) | short (n : Nat) | long (i : Nat)
def Lo.d : Lo → D
  | .ok w p => .tup [.int w, .int p]
  | .short n => .tup [.non, .tup [.int n, .str "short"]]
  | .long i => .tup [.non, .tup [.int i, .str "length"]]
end Dv

set_option Elab.async false
set_option linter.all false
set_option maxRecDepth 100000
set_option maxHeartbeats 4000000
namespace Dv
open PySem PySem.Spec PyProof.Rows L2
local macro_rules | `(tactic| walk_at "ev") => `(tactic| simp only [kRet_s, ev_name, ev_c, nm_val, nm_own, nm_bor, der_d, der_nw, der_sl, sl_own, sl_bor, sl_val, ev_bin, kBin_s, kBin2_s, kBin3_s, kBin4_s, ev_b1, kOne_s, kOne2_s, kRetD_s, ev_un, kUn1_s, kUn12_s, gNeg_i, ev_test, kTst_s, ev_and, ev_or, ev_not, kAnd_t, kAnd_f, kOr_t, kOr_f, kNot_s, ev_notV, kBl_s, ev_andV, ev_orV, kAndV_t, kAndV_f, kOrV_t, kOrV_f, ev_if, kIfE_t, kIfE_f, ev_yes, ev_ch, kCh_s, kCh2_s, kCh3_s, kCh4_s, kCh5_t, kCh5_f, ev_nil, ev_cons, kC1_s, kC2_s, ev_rev, kRv_s, escs_nil, escs_cons, kX1_s, kX2_s, esc_d, esc_nw, esc_sl, escS_own, escS_val, ev_tup, kT1_s, kT2_s, ev_lst, kL1_s, kL2_s, ev_pno, ev_pzero, ev_pint, kPI_s, ev_sl, kS1_s, kS2_s, kS3_s, kS4_s, ev_lrg, kR1_s, kR2_s, ev_call, kF1_s, kF2_s, kF3_s, ders_nil, ders_cons, kD1_s, kD2_s, rt_d, rt_nw, ev_call1, kG1_s, kG2_s, kG3_s, kG4_s, ow_own, ow_bor, put_own, put_bor, ev_iseq, kI1_s, kI2_t, kI2_l, kI2_f, ev_irg1, kN1_u, kN1_i, ev_irg2, kN2_s, kN3_u, ev_lc, kV1_s, kV2_s, ev_seq, kSeq_n, kSeq_r, kSeq_b, kSeq_c, ev_skip, ev_break, ev_cont, ev_retN, ev_ret, kRt_s, ev_sif, kIf_t, kIf_f, ev_drop, kDr_s, ev_set, kSt_s, kSt2_s, ev_own, kOw_s, ev_unp, kUn_s, kUn2_s, kNx_s, bt_nm, bt_tp, sa_nil, sa_cons, ev_par, kPa_s, sp_nil, sp_own, sp_val, ev_app, kAp_s, kAp2_s, kAp3_s, kAp4_s, ev_sti, kSi_s, kSi2_s, kSi3_s, kSi4_s, kSi5_s, kSi6_s, ev_aug, kAg_s, kAg2_s, val_s, ev_for, kFo_s, loop_nil, loop_cons, kLp_s, kLp_n, kLp_c, kLp_b, kLp_r, ev_while, while_s, kWh_f, kWh_t, kWh_n, kWh_c, kWh_b, kWh_r, lc_nil, lc_cons, kLc1_s, kLc2_t, kLc2_f, kLc3_s, kLc4_s, run0_k, kE0_r, kE0_n, rtOf_d, rtOf_nw, rtOf_sl, rtS_own, run1_k, kE1_r, kE1_n, kE2_s, bor_s, gAdd_i, gAdd_l, gAdd_t, gSub_i, gMul_i, gMod_i, gDiv_i, gPow_i, gEq_i, gEq_s, gEq_b, gCmp_i, gIs_n, gInt_i, gInt_b, gMax_i, gMin_i, gAbs_i, gTup_t, gTup_l, gLen_t, gLen_l, gLen_f, gIx_t, gIx_l, gIx_f, kIx_s, at_0, at_1, at_2, at_3, at_4, at_5, gSl_t, gSl_l,
  List.map_cons, List.map_nil, List.cons_append, List.nil_append, List.append_nil, List.length_cons, List.length_nil, List.replicate_succ, List.replicate_zero, Nat.reduceSub, Nat.reduceAdd, List.getElem?_cons_zero, List.getElem?_cons_succ, List.getElem?_nil, List.set_cons_zero, List.set_cons_succ, List.set_nil, Nat.zero_add, Nat.add_zero,
  List.all_cons, List.all_nil, notSl, Bool.and_true, Bool.true_and, Bool.or_true, Bool.true_or, Bool.and_false, Bool.false_and, Bool.or_false, Bool.false_or, if_true, if_false, Bool.false_eq_true, reduceIte, Bool.not_true, Bool.not_false, Bool.bne_true, Bool.bne_false, decide_true, decide_false, wipeE, backE, backS, nc_0, List.length_map, rg_len, Nat.reduceLeDiff, fd_ix, fi_ix, fi_len, fi_it, dcs, eq_self, Int.reduceEq, Int.reduceLT, Int.reduceLE, Int.reduceAdd, Int.reduceSub, Int.reduceMul, Int.reduceToNat, gIs_c, mkD_n, mkD_s, items, and_true, true_and, and_self, bne_self_eq_false, wt, gIn_t, gIsi_i, gIsi_t, gIsi_s, gIsi_n, gIsi_b, flatD, eqF_s, eqF_i, eqF_n, List.any_cons, List.any_nil, Rt.o, Option.bind_some, phi0_s, phi1_s, List.reverse_cons, List.reverse_nil, decide_eq_true_eq, *])

/-! ### the law's own stand -/
theorem beh_cons {f : Frm} {st : Std} {x : Int} {xs : List Int} : beh f st (x :: xs) = (match step f st x with | none => none | some s => beh f s xs) := rfl
end Dv

set_option Elab.async false
set_option linter.all false
set_option maxRecDepth 100000
set_option maxHeartbeats 4000000
namespace Dv
open PySem PySem.Spec PyProof.Rows L2
local macro_rules | `(tactic| walk_at "ev") => `(tactic| simp only [kRet_s, ev_name, ev_c, nm_val, nm_own, nm_bor, der_d, der_nw, der_sl, sl_own, sl_bor, sl_val, ev_bin, kBin_s, kBin2_s, kBin3_s, kBin4_s, ev_b1, kOne_s, kOne2_s, kRetD_s, ev_un, kUn1_s, kUn12_s, gNeg_i, ev_test, kTst_s, ev_and, ev_or, ev_not, kAnd_t, kAnd_f, kOr_t, kOr_f, kNot_s, ev_notV, kBl_s, ev_andV, ev_orV, kAndV_t, kAndV_f, kOrV_t, kOrV_f, ev_if, kIfE_t, kIfE_f, ev_yes, ev_ch, kCh_s, kCh2_s, kCh3_s, kCh4_s, kCh5_t, kCh5_f, ev_nil, ev_cons, kC1_s, kC2_s, ev_rev, kRv_s, escs_nil, escs_cons, kX1_s, kX2_s, esc_d, esc_nw, esc_sl, escS_own, escS_val, ev_tup, kT1_s, kT2_s, ev_lst, kL1_s, kL2_s, ev_pno, ev_pzero, ev_pint, kPI_s, ev_sl, kS1_s, kS2_s, kS3_s, kS4_s, ev_lrg, kR1_s, kR2_s, ev_call, kF1_s, kF2_s, kF3_s, ders_nil, ders_cons, kD1_s, kD2_s, rt_d, rt_nw, ev_call1, kG1_s, kG2_s, kG3_s, kG4_s, ow_own, ow_bor, put_own, put_bor, ev_iseq, kI1_s, kI2_t, kI2_l, kI2_f, ev_irg1, kN1_u, kN1_i, ev_irg2, kN2_s, kN3_u, ev_lc, kV1_s, kV2_s, ev_seq, kSeq_n, kSeq_r, kSeq_b, kSeq_c, ev_skip, ev_break, ev_cont, ev_retN, ev_ret, kRt_s, ev_sif, kIf_t, kIf_f, ev_drop, kDr_s, ev_set, kSt_s, kSt2_s, ev_own, kOw_s, ev_unp, kUn_s, kUn2_s, kNx_s, bt_nm, bt_tp, sa_nil, sa_cons, ev_par, kPa_s, sp_nil, sp_own, sp_val, ev_app, kAp_s, kAp2_s, kAp3_s, kAp4_s, ev_sti, kSi_s, kSi2_s, kSi3_s, kSi4_s, kSi5_s, kSi6_s, ev_aug, kAg_s, kAg2_s, val_s, ev_for, kFo_s, loop_nil, loop_cons, kLp_s, kLp_n, kLp_c, kLp_b, kLp_r, ev_while, while_s, kWh_f, kWh_t, kWh_n, kWh_c, kWh_b, kWh_r, lc_nil, lc_cons, kLc1_s, kLc2_t, kLc2_f, kLc3_s, kLc4_s, run0_k, kE0_r, kE0_n, rtOf_d, rtOf_nw, rtOf_sl, rtS_own, run1_k, kE1_r, kE1_n, kE2_s, bor_s, gAdd_i, gAdd_l, gAdd_t, gSub_i, gMul_i, gMod_i, gDiv_i, gPow_i, gEq_i, gEq_s, gEq_b, gCmp_i, gIs_n, gInt_i, gInt_b, gMax_i, gMin_i, gAbs_i, gTup_t, gTup_l, gLen_t, gLen_l, gLen_f, gIx_t, gIx_l, gIx_f, kIx_s, at_0, at_1, at_2, at_3, at_4, at_5, gSl_t, gSl_l,
  List.map_cons, List.map_nil, List.cons_append, List.nil_append, List.append_nil, List.length_cons, List.length_nil, List.replicate_succ, List.replicate_zero, Nat.reduceSub, Nat.reduceAdd, List.getElem?_cons_zero, List.getElem?_cons_succ, List.getElem?_nil, List.set_cons_zero, List.set_cons_succ, List.set_nil, Nat.zero_add, Nat.add_zero,
  List.all_cons, List.all_nil, notSl, Bool.and_true, Bool.true_and, Bool.or_true, Bool.true_or, Bool.and_false, Bool.false_and, Bool.or_false, Bool.false_or, if_true, if_false, Bool.false_eq_true, reduceIte, Bool.not_true, Bool.not_false, Bool.bne_true, Bool.bne_false, decide_true, decide_false, wipeE, backE, backS, nc_0, List.length_map, rg_len, Nat.reduceLeDiff, fd_ix, fi_ix, fi_len, fi_it, dcs, eq_self, Int.reduceEq, Int.reduceLT, Int.reduceLE, Int.reduceAdd, Int.reduceSub, Int.reduceMul, Int.reduceToNat, gIs_c, mkD_n, mkD_s, items, and_true, true_and, and_self, bne_self_eq_false, wt, gIn_t, gIsi_i, gIsi_t, gIsi_s, gIsi_n, gIsi_b, flatD, eqF_s, eqF_i, eqF_n, List.any_cons, List.any_nil, Rt.o, Option.bind_some, phi0_s, phi1_s, List.reverse_cons, List.reverse_nil, decide_eq_true_eq, *])
def Us.tells : Us → Bool | .fin => false | .stop => false | _ => true
end Dv

set_option Elab.async false
set_option linter.all false
set_option maxRecDepth 100000
set_option maxHeartbeats 4000000
namespace Dv
open PySem PySem.Spec PyProof.Rows L2
local macro_rules | `(tactic| walk_at "ev") => `(tactic| simp only [kRet_s, ev_name, ev_c, nm_val, nm_own, nm_bor, der_d, der_nw, der_sl, sl_own, sl_bor, sl_val, ev_bin, kBin_s, kBin2_s, kBin3_s, kBin4_s, ev_b1, kOne_s, kOne2_s, kRetD_s, ev_un, kUn1_s, kUn12_s, gNeg_i, ev_test, kTst_s, ev_and, ev_or, ev_not, kAnd_t, kAnd_f, kOr_t, kOr_f, kNot_s, ev_notV, kBl_s, ev_andV, ev_orV, kAndV_t, kAndV_f, kOrV_t, kOrV_f, ev_if, kIfE_t, kIfE_f, ev_yes, ev_ch, kCh_s, kCh2_s, kCh3_s, kCh4_s, kCh5_t, kCh5_f, ev_nil, ev_cons, kC1_s, kC2_s, ev_rev, kRv_s, escs_nil, escs_cons, kX1_s, kX2_s, esc_d, esc_nw, esc_sl, escS_own, escS_val, ev_tup, kT1_s, kT2_s, ev_lst, kL1_s, kL2_s, ev_pno, ev_pzero, ev_pint, kPI_s, ev_sl, kS1_s, kS2_s, kS3_s, kS4_s, ev_lrg, kR1_s, kR2_s, ev_call, kF1_s, kF2_s, kF3_s, ders_nil, ders_cons, kD1_s, kD2_s, rt_d, rt_nw, ev_call1, kG1_s, kG2_s, kG3_s, kG4_s, ow_own, ow_bor, put_own, put_bor, ev_iseq, kI1_s, kI2_t, kI2_l, kI2_f, ev_irg1, kN1_u, kN1_i, ev_irg2, kN2_s, kN3_u, ev_lc, kV1_s, kV2_s, ev_seq, kSeq_n, kSeq_r, kSeq_b, kSeq_c, ev_skip, ev_break, ev_cont, ev_retN, ev_ret, kRt_s, ev_sif, kIf_t, kIf_f, ev_drop, kDr_s, ev_set, kSt_s, kSt2_s, ev_own, kOw_s, ev_unp, kUn_s, kUn2_s, kNx_s, bt_nm, bt_tp, sa_nil, sa_cons, ev_par, kPa_s, sp_nil, sp_own, sp_val, ev_app, kAp_s, kAp2_s, kAp3_s, kAp4_s, ev_sti, kSi_s, kSi2_s, kSi3_s, kSi4_s, kSi5_s, kSi6_s, ev_aug, kAg_s, kAg2_s, val_s, ev_for, kFo_s, loop_nil, loop_cons, kLp_s, kLp_n, kLp_c, kLp_b, kLp_r, ev_while, while_s, kWh_f, kWh_t, kWh_n, kWh_c, kWh_b, kWh_r, lc_nil, lc_cons, kLc1_s, kLc2_t, kLc2_f, kLc3_s, kLc4_s, run0_k, kE0_r, kE0_n, rtOf_d, rtOf_nw, rtOf_sl, rtS_own, run1_k, kE1_r, kE1_n, kE2_s, bor_s, gAdd_i, gAdd_l, gAdd_t, gSub_i, gMul_i, gMod_i, gDiv_i, gPow_i, gEq_i, gEq_s, gEq_b, gCmp_i, gIs_n, gInt_i, gInt_b, gMax_i, gMin_i, gAbs_i, gTup_t, gTup_l, gLen_t, gLen_l, gLen_f, gIx_t, gIx_l, gIx_f, kIx_s, at_0, at_1, at_2, at_3, at_4, at_5, gSl_t, gSl_l,
  List.map_cons, List.map_nil, List.cons_append, List.nil_append, List.append_nil, List.length_cons, List.length_nil, List.replicate_succ, List.replicate_zero, Nat.reduceSub, Nat.reduceAdd, List.getElem?_cons_zero, List.getElem?_cons_succ, List.getElem?_nil, List.set_cons_zero, List.set_cons_succ, List.set_nil, Nat.zero_add, Nat.add_zero,
  List.all_cons, List.all_nil, notSl, Bool.and_true, Bool.true_and, Bool.or_true, Bool.true_or, Bool.and_false, Bool.false_and, Bool.or_false, Bool.false_or, if_true, if_false, Bool.false_eq_true, reduceIte, Bool.not_true, Bool.not_false, Bool.bne_true, Bool.bne_false, decide_true, decide_false, wipeE, backE, backS, nc_0, List.length_map, rg_len, Nat.reduceLeDiff, fd_ix, fi_ix, fi_len, fi_it, dcs, eq_self, Int.reduceEq, Int.reduceLT, Int.reduceLE, Int.reduceAdd, Int.reduceSub, Int.reduceMul, Int.reduceToNat, gIs_c, mkD_n, mkD_s, items, and_true, true_and, and_self, bne_self_eq_false, wt, gIn_t, gIsi_i, gIsi_t, gIsi_s, gIsi_n, gIsi_b, flatD, eqF_s, eqF_i, eqF_n, List.any_cons, List.any_nil, Rt.o, Option.bind_some, phi0_s, phi1_s, List.reverse_cons, List.reverse_nil, decide_eq_true_eq, *])
/-! ### the law's own stand, from the head on -/
theorem rg_range {n : Nat} : rgD 0 n = (List.range' 0 n).map fun i : Nat => D.int (i : Int) := by
  unfold rgD
  rw [List.range_eq_range']
  apply List.map_congr_left
  intro i _
  rw [Int.zero_add]
end Dv

set_option Elab.async false
set_option linter.all false
set_option maxRecDepth 100000
set_option maxHeartbeats 4000000
namespace Dv
open PySem PySem.Spec PyProof.Rows L2
theorem isi2_c : (∀ i, gIsi2 "list" "tuple" (.int i) = some (.d (.bl false))) ∧ (∀ i, gIsi2 "list" "tuple" (.str i) = some (.d (.bl false))) ∧ gIsi2 "list" "tuple" .non = some (.d (.bl false)) ∧ (∀ i, gIsi2 "list" "tuple" (.tup i) = some (.d (.bl true))) ∧ (∀ i, gIsi2 "list" "tuple" (.lst i) = some (.d (.bl true))) := ⟨fun _ => rfl, fun _ => rfl, rfl, fun _ => rfl, fun _ => rfl⟩
theorem gEq_n {n : Bool} : gEq n .non .non = some (.d (.bl (true != n))) := rfl
theorem gEq_l {n : Bool} : gEq n (.lst []) (.lst []) = some (.d (.bl (true != n))) := rfl
end Dv

set_option Elab.async false
set_option linter.all false
set_option maxRecDepth 100000
set_option maxHeartbeats 4000000
namespace Dv
open PySem PySem.Spec PyProof.Rows L2
local macro_rules | `(tactic| walk_at "ev") => `(tactic| simp only [kRet_s, ev_name, ev_c, nm_val, nm_own, nm_bor, der_d, der_nw, der_sl, sl_own, sl_bor, sl_val, ev_bin, kBin_s, kBin2_s, kBin3_s, kBin4_s, ev_b1, kOne_s, kOne2_s, kRetD_s, ev_un, kUn1_s, kUn12_s, gNeg_i, ev_test, kTst_s, ev_and, ev_or, ev_not, kAnd_t, kAnd_f, kOr_t, kOr_f, kNot_s, ev_notV, kBl_s, ev_andV, ev_orV, kAndV_t, kAndV_f, kOrV_t, kOrV_f, ev_if, kIfE_t, kIfE_f, ev_yes, ev_ch, kCh_s, kCh2_s, kCh3_s, kCh4_s, kCh5_t, kCh5_f, ev_nil, ev_cons, kC1_s, kC2_s, ev_rev, kRv_s, escs_nil, escs_cons, kX1_s, kX2_s, esc_d, esc_nw, esc_sl, escS_own, escS_val, ev_tup, kT1_s, kT2_s, ev_lst, kL1_s, kL2_s, ev_pno, ev_pzero, ev_pint, kPI_s, ev_sl, kS1_s, kS2_s, kS3_s, kS4_s, ev_lrg, kR1_s, kR2_s, ev_call, kF1_s, kF2_s, kF3_s, ders_nil, ders_cons, kD1_s, kD2_s, rt_d, rt_nw, ev_call1, kG1_s, kG2_s, kG3_s, kG4_s, ow_own, ow_bor, put_own, put_bor, ev_iseq, kI1_s, kI2_t, kI2_l, kI2_f, ev_irg1, kN1_u, kN1_i, ev_irg2, kN2_s, kN3_u, ev_lc, kV1_s, kV2_s, ev_seq, kSeq_n, kSeq_r, kSeq_b, kSeq_c, ev_skip, ev_break, ev_cont, ev_retN, ev_ret, kRt_s, ev_sif, kIf_t, kIf_f, ev_drop, kDr_s, ev_set, kSt_s, kSt2_s, ev_own, kOw_s, ev_unp, kUn_s, kUn2_s, kNx_s, bt_nm, bt_tp, sa_nil, sa_cons, ev_par, kPa_s, sp_nil, sp_own, sp_val, ev_app, kAp_s, kAp2_s, kAp3_s, kAp4_s, ev_sti, kSi_s, kSi2_s, kSi3_s, kSi4_s, kSi5_s, kSi6_s, ev_aug, kAg_s, kAg2_s, val_s, ev_for, kFo_s, loop_nil, loop_cons, kLp_s, kLp_n, kLp_c, kLp_b, kLp_r, ev_while, while_s, kWh_f, kWh_t, kWh_n, kWh_c, kWh_b, kWh_r, lc_nil, lc_cons, kLc1_s, kLc2_t, kLc2_f, kLc3_s, kLc4_s, run0_k, kE0_r, kE0_n, rtOf_d, rtOf_nw, rtOf_sl, rtS_own, run1_k, kE1_r, kE1_n, kE2_s, bor_s, gAdd_i, gAdd_l, gAdd_t, gSub_i, gMul_i, gMod_i, gDiv_i, gPow_i, gEq_i, gEq_s, gEq_b, gCmp_i, gIs_n, gInt_i, gInt_b, gMax_i, gMin_i, gAbs_i, gTup_t, gTup_l, gLen_t, gLen_l, gLen_f, gIx_t, gIx_l, gIx_f, kIx_s, at_0, at_1, at_2, at_3, at_4, at_5, gSl_t, gSl_l,
  List.map_cons, List.map_nil, List.cons_append, List.nil_append, List.append_nil, List.length_cons, List.length_nil, List.replicate_succ, List.replicate_zero, Nat.reduceSub, Nat.reduceAdd, List.getElem?_cons_zero, List.getElem?_cons_succ, List.getElem?_nil, List.set_cons_zero, List.set_cons_succ, List.set_nil, Nat.zero_add, Nat.add_zero,
  List.all_cons, List.all_nil, notSl, Bool.and_true, Bool.true_and, Bool.or_true, Bool.true_or, Bool.and_false, Bool.false_and, Bool.or_false, Bool.false_or, if_true, if_false, Bool.false_eq_true, reduceIte, Bool.not_true, Bool.not_false, Bool.bne_true, Bool.bne_false, decide_true, decide_false, wipeE, backE, backS, nc_0, List.length_map, rg_len, Nat.reduceLeDiff, fd_ix, fi_ix, fi_len, fi_it, dcs, eq_self, Int.reduceEq, Int.reduceLT, Int.reduceLE, Int.reduceAdd, Int.reduceSub, Int.reduceMul, Int.reduceToNat, gIs_c, mkD_n, mkD_s, items, and_true, true_and, and_self, bne_self_eq_false, wt, gIn_t, gIsi_i, gIsi_t, gIsi_s, gIsi_n, gIsi_b, gIsi_l, isi2_c, gEq_n, gEq_l, flatD, eqF_s, eqF_i, eqF_n, List.any_cons, List.any_nil, Rt.o, Option.bind_some, phi0_s, phi1_s, List.reverse_cons, List.reverse_nil, decide_eq_true_eq, *])
/-! ### equal values -/
theorem lc_none {t : Tg} {ft : FT} {fe : FE} {vs : List Nat} {ρ : Ev} {ds : List D} (h : ∀ d ∈ ds, ∀ ds' acc, acc.length < 16777216 → lcD t ft fe vs (d :: ds') ρ acc = lcD t ft fe vs ds' ρ acc) (hl : ds.length ≤ 16777216) : lcD t ft fe vs ds ρ [] = some ([], ρ) := by
  rw [lc_gen (f := fun _ => []) (fun _ => by simp) (fun d hd ds' acc ha => by rw [h d hd ds' acc ha, List.append_nil]) (by simpa using hl)]
  simp
theorem eqv_lst {k : Nat} {ds : List D} (hl : ds.length ≤ 1000) (h : ∀ d ∈ ds, phiR__law_equal k [d, d] = some (.d (.bl true))) : phiR__law_equal (k + 1) [.lst ds, .lst ds] = some (.d (.bl true)) := by
  have e := isi2_c.2.2.2.2
  have e2 := @gEq_l
  have e3 := lc_none (t := .nm 2) (ft := fNot (fTest (fCall (phiR__law_equal k) (aCons (fBin gIx (fName 0) (fName 2)) (aCons (fBin gIx (fName 1) (fName 2)) aNil))))) (fe := fName 2) (vs := [2]) (ρ := [.val (.lst ds), .val (.lst ds), .un]) (ds := rgD 0 ds.length) (fun d hd ds' acc ha => by
    obtain ⟨j, hj, rfl⟩ := rg_mem hd
    rw [Int.zero_add]
    have e4 : atI ds (j : Int) = some ds[j] := by rw [at_cast]; exact List.getElem?_eq_getElem hj
    have e5 := h ds[j] (List.getElem_mem hj)
    clear h hd
    walk_at "ev") (by rw [rg_len]; omega)
  have h1 : ds.length ≤ 16777216 := by omega
  clear h
  show phi0 2 3 (g__law_equal (phiR__law_equal k)) _ = _
  unfold g__law_equal
  walk_at "ev"
end Dv

set_option Elab.async false
set_option linter.all false
set_option maxRecDepth 100000
set_option maxHeartbeats 4000000
namespace Dv
open PySem PySem.Spec PyProof.Rows L2
local macro_rules | `(tactic| walk_at "ev") => `(tactic| simp only [kRet_s, ev_name, ev_c, nm_val, nm_own, nm_bor, der_d, der_nw, der_sl, sl_own, sl_bor, sl_val, ev_bin, kBin_s, kBin2_s, kBin3_s, kBin4_s, ev_b1, kOne_s, kOne2_s, kRetD_s, ev_un, kUn1_s, kUn12_s, gNeg_i, ev_test, kTst_s, ev_and, ev_or, ev_not, kAnd_t, kAnd_f, kOr_t, kOr_f, kNot_s, ev_notV, kBl_s, ev_andV, ev_orV, kAndV_t, kAndV_f, kOrV_t, kOrV_f, ev_if, kIfE_t, kIfE_f, ev_yes, ev_ch, kCh_s, kCh2_s, kCh3_s, kCh4_s, kCh5_t, kCh5_f, ev_nil, ev_cons, kC1_s, kC2_s, ev_rev, kRv_s, escs_nil, escs_cons, kX1_s, kX2_s, esc_d, esc_nw, esc_sl, escS_own, escS_val, ev_tup, kT1_s, kT2_s, ev_lst, kL1_s, kL2_s, ev_pno, ev_pzero, ev_pint, kPI_s, ev_sl, kS1_s, kS2_s, kS3_s, kS4_s, ev_lrg, kR1_s, kR2_s, ev_call, kF1_s, kF2_s, kF3_s, ders_nil, ders_cons, kD1_s, kD2_s, rt_d, rt_nw, ev_call1, kG1_s, kG2_s, kG3_s, kG4_s, ow_own, ow_bor, put_own, put_bor, ev_iseq, kI1_s, kI2_t, kI2_l, kI2_f, ev_irg1, kN1_u, kN1_i, ev_irg2, kN2_s, kN3_u, ev_lc, kV1_s, kV2_s, ev_seq, kSeq_n, kSeq_r, kSeq_b, kSeq_c, ev_skip, ev_break, ev_cont, ev_retN, ev_ret, kRt_s, ev_sif, kIf_t, kIf_f, ev_drop, kDr_s, ev_set, kSt_s, kSt2_s, ev_own, kOw_s, ev_unp, kUn_s, kUn2_s, kNx_s, bt_nm, bt_tp, sa_nil, sa_cons, ev_par, kPa_s, sp_nil, sp_own, sp_val, ev_app, kAp_s, kAp2_s, kAp3_s, kAp4_s, ev_sti, kSi_s, kSi2_s, kSi3_s, kSi4_s, kSi5_s, kSi6_s, ev_aug, kAg_s, kAg2_s, val_s, ev_for, kFo_s, loop_nil, loop_cons, kLp_s, kLp_n, kLp_c, kLp_b, kLp_r, ev_while, while_s, kWh_f, kWh_t, kWh_n, kWh_c, kWh_b, kWh_r, lc_nil, lc_cons, kLc1_s, kLc2_t, kLc2_f, kLc3_s, kLc4_s, run0_k, kE0_r, kE0_n, rtOf_d, rtOf_nw, rtOf_sl, rtS_own, run1_k, kE1_r, kE1_n, kE2_s, bor_s, gAdd_i, gAdd_l, gAdd_t, gSub_i, gMul_i, gMod_i, gDiv_i, gPow_i, gEq_i, gEq_s, gEq_b, gCmp_i, gIs_n, gInt_i, gInt_b, gMax_i, gMin_i, gAbs_i, gTup_t, gTup_l, gLen_t, gLen_l, gLen_f, gIx_t, gIx_l, gIx_f, kIx_s, at_0, at_1, at_2, at_3, at_4, at_5, gSl_t, gSl_l,
  List.map_cons, List.map_nil, List.cons_append, List.nil_append, List.append_nil, List.length_cons, List.length_nil, List.replicate_succ, List.replicate_zero, Nat.reduceSub, Nat.reduceAdd, List.getElem?_cons_zero, List.getElem?_cons_succ, List.getElem?_nil, List.set_cons_zero, List.set_cons_succ, List.set_nil, Nat.zero_add, Nat.add_zero,
  List.all_cons, List.all_nil, notSl, Bool.and_true, Bool.true_and, Bool.or_true, Bool.true_or, Bool.and_false, Bool.false_and, Bool.or_false, Bool.false_or, if_true, if_false, Bool.false_eq_true, reduceIte, Bool.not_true, Bool.not_false, Bool.bne_true, Bool.bne_false, decide_true, decide_false, wipeE, backE, backS, nc_0, List.length_map, rg_len, Nat.reduceLeDiff, fd_ix, fi_ix, fi_len, fi_it, dcs, eq_self, Int.reduceEq, Int.reduceLT, Int.reduceLE, Int.reduceAdd, Int.reduceSub, Int.reduceMul, Int.reduceToNat, gIs_c, mkD_n, mkD_s, items, and_true, true_and, and_self, bne_self_eq_false, wt, gIn_t, gIsi_i, gIsi_t, gIsi_s, gIsi_n, gIsi_b, gIsi_l, isi2_c, gEq_n, gEq_l, flatD, eqF_s, eqF_i, eqF_n, List.any_cons, List.any_nil, Rt.o, Option.bind_some, phi0_s, phi1_s, List.reverse_cons, List.reverse_nil, decide_eq_true_eq, *])
/-! ### the law's own reading: chunks -/
theorem beh_app {f : Frm} : ∀ (xs ys : List Int) (s : Std), beh f s (xs ++ ys) = (beh f s xs).bind fun s => beh f s ys
  | [], ys, s => rfl
  | x :: xs, ys, s => by
    rw [List.cons_append, beh_cons, beh_cons]
    cases step f s x with
    | none => rfl
    | some s' => exact beh_app xs ys s'
inductive Ch | ok (b : List Int) (p : Nat) | short (n : Nat) | bad (i : Nat) (w : Bool)
def Ch.d : Ch → D
  | .ok b p => .tup [fileD b, .int p]
  | .short n => .tup [.non, .tup [.int n, .str "short"]]
  | .bad i true => .tup [.non, .tup [.int i, .str "length"]]
  | .bad i false => .tup [.non, .tup [.int i, .str "check"]]
end Dv

set_option Elab.async false
set_option linter.all false
set_option maxRecDepth 100000
set_option maxHeartbeats 4000000
namespace Dv
open PySem PySem.Spec PyProof.Rows L2
local macro_rules | `(tactic| walk_at "ev") => `(tactic| simp only [kRet_s, ev_name, ev_c, nm_val, nm_own, nm_bor, der_d, der_nw, der_sl, sl_own, sl_bor, sl_val, ev_bin, kBin_s, kBin2_s, kBin3_s, kBin4_s, ev_b1, kOne_s, kOne2_s, kRetD_s, ev_un, kUn1_s, kUn12_s, gNeg_i, ev_test, kTst_s, ev_and, ev_or, ev_not, kAnd_t, kAnd_f, kOr_t, kOr_f, kNot_s, ev_notV, kBl_s, ev_andV, ev_orV, kAndV_t, kAndV_f, kOrV_t, kOrV_f, ev_if, kIfE_t, kIfE_f, ev_yes, ev_ch, kCh_s, kCh2_s, kCh3_s, kCh4_s, kCh5_t, kCh5_f, ev_nil, ev_cons, kC1_s, kC2_s, ev_rev, kRv_s, escs_nil, escs_cons, kX1_s, kX2_s, esc_d, esc_nw, esc_sl, escS_own, escS_val, ev_tup, kT1_s, kT2_s, ev_lst, kL1_s, kL2_s, ev_pno, ev_pzero, ev_pint, kPI_s, ev_sl, kS1_s, kS2_s, kS3_s, kS4_s, ev_lrg, kR1_s, kR2_s, ev_call, kF1_s, kF2_s, kF3_s, ders_nil, ders_cons, kD1_s, kD2_s, rt_d, rt_nw, ev_call1, kG1_s, kG2_s, kG3_s, kG4_s, ow_own, ow_bor, put_own, put_bor, ev_iseq, kI1_s, kI2_t, kI2_l, kI2_f, ev_irg1, kN1_u, kN1_i, ev_irg2, kN2_s, kN3_u, ev_lc, kV1_s, kV2_s, ev_seq, kSeq_n, kSeq_r, kSeq_b, kSeq_c, ev_skip, ev_break, ev_cont, ev_retN, ev_ret, kRt_s, ev_sif, kIf_t, kIf_f, ev_drop, kDr_s, ev_set, kSt_s, kSt2_s, ev_own, kOw_s, ev_unp, kUn_s, kUn2_s, kNx_s, bt_nm, bt_tp, sa_nil, sa_cons, ev_par, kPa_s, sp_nil, sp_own, sp_val, ev_app, kAp_s, kAp2_s, kAp3_s, kAp4_s, ev_sti, kSi_s, kSi2_s, kSi3_s, kSi4_s, kSi5_s, kSi6_s, ev_aug, kAg_s, kAg2_s, val_s, ev_for, kFo_s, loop_nil, loop_cons, kLp_s, kLp_n, kLp_c, kLp_b, kLp_r, ev_while, while_s, kWh_f, kWh_t, kWh_n, kWh_c, kWh_b, kWh_r, lc_nil, lc_cons, kLc1_s, kLc2_t, kLc2_f, kLc3_s, kLc4_s, run0_k, kE0_r, kE0_n, rtOf_d, rtOf_nw, rtOf_sl, rtS_own, run1_k, kE1_r, kE1_n, kE2_s, bor_s, gAdd_i, gAdd_l, gAdd_t, gSub_i, gMul_i, gMod_i, gDiv_i, gPow_i, gEq_i, gEq_s, gEq_b, gCmp_i, gIs_n, gInt_i, gInt_b, gMax_i, gMin_i, gAbs_i, gTup_t, gTup_l, gLen_t, gLen_l, gLen_f, gIx_t, gIx_l, gIx_f, kIx_s, at_0, at_1, at_2, at_3, at_4, at_5, gSl_t, gSl_l,
  List.map_cons, List.map_nil, List.cons_append, List.nil_append, List.append_nil, List.length_cons, List.length_nil, List.replicate_succ, List.replicate_zero, Nat.reduceSub, Nat.reduceAdd, List.getElem?_cons_zero, List.getElem?_cons_succ, List.getElem?_nil, List.set_cons_zero, List.set_cons_succ, List.set_nil, Nat.zero_add, Nat.add_zero,
  List.all_cons, List.all_nil, notSl, Bool.and_true, Bool.true_and, Bool.or_true, Bool.true_or, Bool.and_false, Bool.false_and, Bool.or_false, Bool.false_or, if_true, if_false, Bool.false_eq_true, reduceIte, Bool.not_true, Bool.not_false, Bool.bne_true, Bool.bne_false, decide_true, decide_false, wipeE, backE, backS, nc_0, List.length_map, rg_len, Nat.reduceLeDiff, fd_ix, fi_ix, fi_len, fi_it, dcs, eq_self, Int.reduceEq, Int.reduceLT, Int.reduceLE, Int.reduceAdd, Int.reduceSub, Int.reduceMul, Int.reduceToNat, gIs_c, mkD_n, mkD_s, items, and_true, true_and, and_self, bne_self_eq_false, wt, gIn_t, gIsi_i, gIsi_t, gIsi_s, gIsi_n, gIsi_b, gIsi_l, isi2_c, gEq_n, gEq_l, flatD, eqF_s, eqF_i, eqF_n, List.any_cons, List.any_nil, Rt.o, Option.bind_some, phi0_s, phi1_s, List.reverse_cons, List.reverse_nil, decide_eq_true_eq, *])
/-! ### the law's own reading -/
def Us.isE : Us → Bool | .fin => true | .stop => true | _ => false
end Dv

set_option Elab.async false
set_option linter.all false
set_option maxRecDepth 100000
set_option maxHeartbeats 4000000
namespace Dv
open PySem PySem.Spec PyProof.Rows L2
local macro_rules | `(tactic| walk_at "ev") => `(tactic| simp only [kRet_s, ev_name, ev_c, nm_val, nm_own, nm_bor, der_d, der_nw, der_sl, sl_own, sl_bor, sl_val, ev_bin, kBin_s, kBin2_s, kBin3_s, kBin4_s, ev_b1, kOne_s, kOne2_s, kRetD_s, ev_un, kUn1_s, kUn12_s, gNeg_i, ev_test, kTst_s, ev_and, ev_or, ev_not, kAnd_t, kAnd_f, kOr_t, kOr_f, kNot_s, ev_notV, kBl_s, ev_andV, ev_orV, kAndV_t, kAndV_f, kOrV_t, kOrV_f, ev_if, kIfE_t, kIfE_f, ev_yes, ev_ch, kCh_s, kCh2_s, kCh3_s, kCh4_s, kCh5_t, kCh5_f, ev_nil, ev_cons, kC1_s, kC2_s, ev_rev, kRv_s, escs_nil, escs_cons, kX1_s, kX2_s, esc_d, esc_nw, esc_sl, escS_own, escS_val, ev_tup, kT1_s, kT2_s, ev_lst, kL1_s, kL2_s, ev_pno, ev_pzero, ev_pint, kPI_s, ev_sl, kS1_s, kS2_s, kS3_s, kS4_s, ev_lrg, kR1_s, kR2_s, ev_call, kF1_s, kF2_s, kF3_s, ders_nil, ders_cons, kD1_s, kD2_s, rt_d, rt_nw, ev_call1, kG1_s, kG2_s, kG3_s, kG4_s, ow_own, ow_bor, put_own, put_bor, ev_iseq, kI1_s, kI2_t, kI2_l, kI2_f, ev_irg1, kN1_u, kN1_i, ev_irg2, kN2_s, kN3_u, ev_lc, kV1_s, kV2_s, ev_seq, kSeq_n, kSeq_r, kSeq_b, kSeq_c, ev_skip, ev_break, ev_cont, ev_retN, ev_ret, kRt_s, ev_sif, kIf_t, kIf_f, ev_drop, kDr_s, ev_set, kSt_s, kSt2_s, ev_own, kOw_s, ev_unp, kUn_s, kUn2_s, kNx_s, bt_nm, bt_tp, sa_nil, sa_cons, ev_par, kPa_s, sp_nil, sp_own, sp_val, ev_app, kAp_s, kAp2_s, kAp3_s, kAp4_s, ev_sti, kSi_s, kSi2_s, kSi3_s, kSi4_s, kSi5_s, kSi6_s, ev_aug, kAg_s, kAg2_s, val_s, ev_for, kFo_s, loop_nil, loop_cons, kLp_s, kLp_n, kLp_c, kLp_b, kLp_r, ev_while, while_s, kWh_f, kWh_t, kWh_n, kWh_c, kWh_b, kWh_r, lc_nil, lc_cons, kLc1_s, kLc2_t, kLc2_f, kLc3_s, kLc4_s, run0_k, kE0_r, kE0_n, rtOf_d, rtOf_nw, rtOf_sl, rtS_own, run1_k, kE1_r, kE1_n, kE2_s, bor_s, gAdd_i, gAdd_l, gAdd_t, gSub_i, gMul_i, gMod_i, gDiv_i, gPow_i, gEq_i, gEq_s, gEq_b, gCmp_i, gIs_n, gInt_i, gInt_b, gMax_i, gMin_i, gAbs_i, gTup_t, gTup_l, gLen_t, gLen_l, gLen_f, gIx_t, gIx_l, gIx_f, kIx_s, at_0, at_1, at_2, at_3, at_4, at_5, gSl_t, gSl_l,
  List.map_cons, List.map_nil, List.cons_append, List.nil_append, List.append_nil, List.length_cons, List.length_nil, List.replicate_succ, List.replicate_zero, Nat.reduceSub, Nat.reduceAdd, List.getElem?_cons_zero, List.getElem?_cons_succ, List.getElem?_nil, List.set_cons_zero, List.set_cons_succ, List.set_nil, Nat.zero_add, Nat.add_zero,
  List.all_cons, List.all_nil, notSl, Bool.and_true, Bool.true_and, Bool.or_true, Bool.true_or, Bool.and_false, Bool.false_and, Bool.or_false, Bool.false_or, if_true, if_false, Bool.false_eq_true, reduceIte, Bool.not_true, Bool.not_false, Bool.bne_true, Bool.bne_false, decide_true, decide_false, wipeE, backE, backS, nc_0, List.length_map, rg_len, Nat.reduceLeDiff, fd_ix, fi_ix, fi_len, fi_it, dcs, eq_self, Int.reduceEq, Int.reduceLT, Int.reduceLE, Int.reduceAdd, Int.reduceSub, Int.reduceMul, Int.reduceToNat, gIs_c, mkD_n, mkD_s, items, and_true, true_and, and_self, bne_self_eq_false, wt, gIn_t, gIsi_i, gIsi_t, gIsi_s, gIsi_n, gIsi_b, gIsi_l, isi2_c, gEq_n, gEq_l, flatD, eqF_s, eqF_i, eqF_n, List.any_cons, List.any_nil, Rt.o, Option.bind_some, phi0_s, phi1_s, List.reverse_cons, List.reverse_nil, decide_eq_true_eq, *])
/-! ### the law's own reading: loops -/
end Dv

set_option Elab.async false
set_option linter.all false
set_option maxRecDepth 100000
set_option maxHeartbeats 4000000
namespace Dv
open PySem PySem.Spec PyProof.Rows L2
local macro_rules | `(tactic| walk_at "ev") => `(tactic| simp only [kRet_s, ev_name, ev_c, nm_val, nm_own, nm_bor, der_d, der_nw, der_sl, sl_own, sl_bor, sl_val, ev_bin, kBin_s, kBin2_s, kBin3_s, kBin4_s, ev_b1, kOne_s, kOne2_s, kRetD_s, ev_un, kUn1_s, kUn12_s, gNeg_i, ev_test, kTst_s, ev_and, ev_or, ev_not, kAnd_t, kAnd_f, kOr_t, kOr_f, kNot_s, ev_notV, kBl_s, ev_andV, ev_orV, kAndV_t, kAndV_f, kOrV_t, kOrV_f, ev_if, kIfE_t, kIfE_f, ev_yes, ev_ch, kCh_s, kCh2_s, kCh3_s, kCh4_s, kCh5_t, kCh5_f, ev_nil, ev_cons, kC1_s, kC2_s, ev_rev, kRv_s, escs_nil, escs_cons, kX1_s, kX2_s, esc_d, esc_nw, esc_sl, escS_own, escS_val, ev_tup, kT1_s, kT2_s, ev_lst, kL1_s, kL2_s, ev_pno, ev_pzero, ev_pint, kPI_s, ev_sl, kS1_s, kS2_s, kS3_s, kS4_s, ev_lrg, kR1_s, kR2_s, ev_call, kF1_s, kF2_s, kF3_s, ders_nil, ders_cons, kD1_s, kD2_s, rt_d, rt_nw, ev_call1, kG1_s, kG2_s, kG3_s, kG4_s, ow_own, ow_bor, put_own, put_bor, ev_iseq, kI1_s, kI2_t, kI2_l, kI2_f, ev_irg1, kN1_u, kN1_i, ev_irg2, kN2_s, kN3_u, ev_lc, kV1_s, kV2_s, ev_seq, kSeq_n, kSeq_r, kSeq_b, kSeq_c, ev_skip, ev_break, ev_cont, ev_retN, ev_ret, kRt_s, ev_sif, kIf_t, kIf_f, ev_drop, kDr_s, ev_set, kSt_s, kSt2_s, ev_own, kOw_s, ev_unp, kUn_s, kUn2_s, kNx_s, bt_nm, bt_tp, sa_nil, sa_cons, ev_par, kPa_s, sp_nil, sp_own, sp_val, ev_app, kAp_s, kAp2_s, kAp3_s, kAp4_s, ev_sti, kSi_s, kSi2_s, kSi3_s, kSi4_s, kSi5_s, kSi6_s, ev_aug, kAg_s, kAg2_s, val_s, ev_for, kFo_s, loop_nil, loop_cons, kLp_s, kLp_n, kLp_c, kLp_b, kLp_r, ev_while, while_s, kWh_f, kWh_t, kWh_n, kWh_c, kWh_b, kWh_r, lc_nil, lc_cons, kLc1_s, kLc2_t, kLc2_f, kLc3_s, kLc4_s, run0_k, kE0_r, kE0_n, rtOf_d, rtOf_nw, rtOf_sl, rtS_own, run1_k, kE1_r, kE1_n, kE2_s, bor_s, gAdd_i, gAdd_l, gAdd_t, gSub_i, gMul_i, gMod_i, gDiv_i, gPow_i, gEq_i, gEq_s, gEq_b, gCmp_i, gIs_n, gInt_i, gInt_b, gMax_i, gMin_i, gAbs_i, gTup_t, gTup_l, gLen_t, gLen_l, gLen_f, gIx_t, gIx_l, gIx_f, kIx_s, at_0, at_1, at_2, at_3, at_4, at_5, gSl_t, gSl_l,
  List.map_cons, List.map_nil, List.cons_append, List.nil_append, List.append_nil, List.length_cons, List.length_nil, List.replicate_succ, List.replicate_zero, Nat.reduceSub, Nat.reduceAdd, List.getElem?_cons_zero, List.getElem?_cons_succ, List.getElem?_nil, List.set_cons_zero, List.set_cons_succ, List.set_nil, Nat.zero_add, Nat.add_zero,
  List.all_cons, List.all_nil, notSl, Bool.and_true, Bool.true_and, Bool.or_true, Bool.true_or, Bool.and_false, Bool.false_and, Bool.or_false, Bool.false_or, if_true, if_false, Bool.false_eq_true, reduceIte, Bool.not_true, Bool.not_false, Bool.bne_true, Bool.bne_false, decide_true, decide_false, wipeE, backE, backS, nc_0, List.length_map, rg_len, Nat.reduceLeDiff, fd_ix, fi_ix, fi_len, fi_it, dcs, eq_self, Int.reduceEq, Int.reduceLT, Int.reduceLE, Int.reduceAdd, Int.reduceSub, Int.reduceMul, Int.reduceToNat, gIs_c, mkD_n, mkD_s, items, and_true, true_and, and_self, bne_self_eq_false, wt, gIn_t, gIsi_i, gIsi_t, gIsi_s, gIsi_n, gIsi_b, gIsi_l, isi2_c, gEq_n, gEq_l, flatD, eqF_s, eqF_i, eqF_n, List.any_cons, List.any_nil, Rt.o, Option.bind_some, phi0_s, phi1_s, List.reverse_cons, List.reverse_nil, decide_eq_true_eq, *])
abbrev dtB : FS := (sIf (fAnd (fTest (fBin (gCmp fun i j => decide (i < j)) (fB1 gLen (fName 4)) (fName 2))) (fTest (fBin (gCmp fun i j => decide (i < j)) (fCall1 phi__law_grab (aCons (fName 0) (aCons (fName 1) aNil))) (fName 2)))) (sApp 4 (fTup (aCons (fName 5) (aCons (fBin gIx (fName 3) (fCall1 phi__law_grab (aCons (fName 0) (aCons (fC (.int 7)) aNil)))) aNil)))) sSkip)
abbrev dfE : FE := (fIf (fTest (fBin (gEq false) (fCall1 phi__law_grab (aCons (fName 0) (aCons (fC (.int 3)) aNil))) (fC (.int 0)))) (fC .non) (fCall1 phi__law_grab (aCons (fName 0) (aCons (fName 1) aNil))))
/-! ### drawn numbers -/
structure Bag where
  a : Int
  b : Int
  c : Int
def Bag.d (g : Bag) : List D := [.int g.a, .int g.b, .int g.c]
/-- at most so often asked -/
structure Bag.In (g : Bag) (n : Int) : Prop where
  b0 : 0 ≤ g.b
  b1 : g.b < 2 ^ 200
  c0 : 0 ≤ g.c
  c1 : g.c ≤ n
theorem Bag.In.le {g : Bag} {n m : Int} (h : g.In n) (l : n ≤ m) : g.In m := ⟨h.b0, h.b1, h.c0, by have := h.c1; omega⟩
theorem lg {i : Int} {k : Nat} (h0 : 0 ≤ i) (h : i < 2 ^ k) : i.natAbs.log2 ≤ k := by
  have h2 : i.natAbs < 2 ^ k := by
    have : ((i.natAbs : Nat) : Int) < ((2 ^ k : Nat) : Int) := by
      rw [Int.natAbs_of_nonneg h0]
      simpa using h
    exact Int.ofNat_lt.mp this
  by_cases hz : i.natAbs = 0
  · rw [hz]; simp
  · exact Nat.le_of_lt ((Nat.log2_lt hz).mpr h2)
theorem pow_s {i j : Int} {k : Nat} (h0 : 0 ≤ i) (h : i < 2 ^ k) (hk : k ≤ 10000) (j0 : 0 ≤ j) (j1 : j ≤ 100) : gPow (.int i) (.int j) = some (.d (.int (i ^ j.toNat))) := by
  apply gPow_i
  refine ⟨j0, ?_⟩
  have h1 := lg h0 h
  have h2 : (((i.natAbs.log2 + 1 : Nat)) : Int) ≤ 10001 := by omega
  have h3 : (((i.natAbs.log2 + 1 : Nat)) : Int) * j ≤ 10001 * 100 := Int.mul_le_mul h2 j1 j0 (by omega)
  omega
theorem mul_b {a b : Int} {k : Nat} (ha : 0 ≤ a) (ha2 : a ≤ 400000000) (hb : 0 ≤ b) (hb2 : b < 2 ^ k) (hk : k ≤ 10000) : gMul (.int a) (.int b) = some (.d (.int (a * b))) := by
  apply gMul_i
  have h1 := lg hb hb2
  have h2 : a.natAbs.log2 ≤ 30 := lg ha (by omega)
  omega
theorem grab_ok {g : Bag} {n N : Int} (hn : 0 < n) (hn2 : n ≤ 1000000) (h : g.In N) (hN : N < 2 ^ 60) : ∃ v g', phi__law_grab [.lst g.d, .int n] = some (.d (.int v), g'.d) ∧ 0 ≤ v ∧ v < n ∧ Bag.In g' (N + 1) := by
  obtain ⟨a, b, c⟩ := g
  obtain ⟨b0, b1, c0, c1⟩ := h
  dsimp only at b0 b1 c0 c1
  have e0 : ixN 3 0 = some 0 := rfl
  have e2 : ixN 3 2 = some 2 := rfl
  have m0 : ∀ z : Int, gMod (.int z) (.int n) = some (.d (.int (z % n))) := fun z => gMod_i hn
  by_cases ha : 0 < a
  · refine ⟨a % n, ⟨a / n, b, c⟩, ?_, Int.emod_nonneg _ (by omega), Int.emod_lt_of_pos _ hn, b0, b1, c0, by show c ≤ N + 1; omega⟩
    have d0 : gDiv (.int a) (.int n) = some (.d (.int (a / n))) := gDiv_i ⟨hn, by have := lg (i := n) (k := 30) (by omega) (by omega); omega⟩
    unfold phi__law_grab g__law_grab Bag.d
    clear hn2 hN b1 c1
    walk_at "ev"
  · obtain ⟨K, k1, k2, k3⟩ : ∃ K : Int, gPow (.int 10) (.int 38) = some (.d (.int K)) ∧ 0 < K ∧ K < 2 ^ 150 := ⟨10 ^ 38, pow_s (k := 5) (by decide) (by decide) (by decide) (by decide) (by decide), by decide, by decide⟩
    obtain ⟨L, l1, l2, l3⟩ : ∃ K : Int, gPow (.int 10) (.int 39) = some (.d (.int K)) ∧ 0 < K ∧ K < 2 ^ 150 := ⟨10 ^ 39, pow_s (k := 5) (by decide) (by decide) (by decide) (by decide) (by decide), by decide, by decide⟩
    have f1 : gMul (.int 90019) (.int (c + 1)) = some (.d (.int (90019 * (c + 1)))) := mul_b (k := 70) (by decide) (by decide) (by omega) (by omega) (by decide)
    have f2 : gMul (.int 1900037) (.int (c + 1)) = some (.d (.int (1900037 * (c + 1)))) := mul_b (k := 70) (by decide) (by decide) (by omega) (by omega) (by decide)
    obtain ⟨P, p1⟩ : ∃ P : Int, gPow (.int (b + 90019 * (c + 1))) (.int 2) = some (.d (.int P)) := ⟨_, pow_s (k := 300) (by omega) (by omega) (by decide) (by decide) (by decide)⟩
    have q0 : gMod (.int P) (.int (K + 271)) = some (.d (.int (P % (K + 271)))) := gMod_i (by omega)
    have q1 := Int.emod_nonneg P (show K + 271 ≠ 0 by omega)
    have q2 := Int.emod_lt_of_pos P (show 0 < K + 271 by omega)
    obtain ⟨R, r1⟩ : ∃ R : Int, gPow (.int (P % (K + 271) + 1900037 * (c + 1))) (.int 3) = some (.d (.int R)) := ⟨_, pow_s (k := 300) (by omega) (by omega) (by decide) (by decide) (by decide)⟩
    have r0 : gMod (.int R) (.int (L + 331)) = some (.d (.int (R % (L + 331)))) := gMod_i (by omega)
    have r2 : gDiv (.int (R % (L + 331))) (.int 8192) = some (.d (.int (R % (L + 331) / 8192))) := gDiv_i ⟨by decide, by decide⟩
    refine ⟨R % (L + 331) / 8192 % n, ⟨a, b, c + 1⟩, ?_, Int.emod_nonneg _ (by omega), Int.emod_lt_of_pos _ hn, b0, b1, by show 0 ≤ c + 1; omega, by show c + 1 ≤ N + 1; omega⟩
    unfold phi__law_grab g__law_grab Bag.d
    clear hn2 hN b1 c1 k2 k3 l2 l3 q1 q2
    walk_at "ev"
theorem tag_kind {v : Int} (h0 : 0 ≤ v) (h1 : v < 7) : ∃ u : Us, atI [D.str "keep", .str "check", .str "skip", .str "end", .str "stop", .str "keep", .str "skip"] v = some u.s := by
  have : v = 0 ∨ v = 1 ∨ v = 2 ∨ v = 3 ∨ v = 4 ∨ v = 5 ∨ v = 6 := by omega
  rcases this with rfl | rfl | rfl | rfl | rfl | rfl | rfl
  · exact ⟨.keep, rfl⟩
  · exact ⟨.check, rfl⟩
  · exact ⟨.skip, rfl⟩
  · exact ⟨.fin, rfl⟩
  · exact ⟨.stop, rfl⟩
  · exact ⟨.keep, rfl⟩
  · exact ⟨.skip, rfl⟩
structure TgOk (ts : List (Int × Us)) (j : Int) : Prop where
  r : ∀ t ∈ ts, 0 ≤ t.1 ∧ t.1 < j
  p : ts.Pairwise fun a b => a.1 < b.1
theorem TgOk.le {ts : List (Int × Us)} {i j : Int} (h : TgOk ts i) (l : i ≤ j) : TgOk ts j := ⟨fun t ht => ⟨(h.r t ht).1, by have := (h.r t ht).2; omega⟩, h.p⟩
theorem TgOk.app {ts : List (Int × Us)} {j : Int} {u : Us} (h : TgOk ts j) (hj : 0 ≤ j) : TgOk (ts ++ [(j, u)]) (j + 1) := by
  refine ⟨fun t ht => ?_, ?_⟩
  · rcases List.mem_append.mp ht with ht | ht
    · have := h.r t ht; omega
    · rw [List.mem_singleton.mp ht]; dsimp only; omega
  · rw [List.pairwise_append]
    refine ⟨h.p, List.pairwise_singleton _ _, fun a ha b hb => ?_⟩
    rw [List.mem_singleton.mp hb]
    exact (h.r a ha).2
abbrev kindsD : List D := [.str "keep", .str "check", .str "skip", .str "end", .str "stop", .str "keep", .str "skip"]
theorem dt_loop {base many : Int} (hb : 2 ≤ base ∧ base ≤ 256) : ∀ (m j : Nat) (ts : List (Int × Us)) (g : Bag) (c5 : Sl) (N : Int), (j : Int) + m = base → TgOk ts j → ts.length ≤ j → g.In N → N + 2 * m < 2 ^ 60 →
    ∃ ts' g' c5', loopD (.nm 5) dtB ((List.range' j m).map fun i : Nat => D.int (i : Int)) [.bor g.d, .val (.int base), .val (.int many), .own kindsD, .own (ts.map tgD), c5] = some (.nx [.bor g'.d, .val (.int base), .val (.int many), .own kindsD, .own (ts'.map tgD), c5']) ∧ TgOk ts' base ∧ ts'.length ≤ 256 ∧ Bag.In g' (N + 2 * m)
  | 0, j, ts, g, c5, N, hm, ht, hl, hg, hN => ⟨ts, g, c5, by rw [List.range'_zero]; rfl, ht.le (by omega), by omega, hg.le (by omega)⟩
  | m + 1, j, ts, g, c5, N, hm, ht, hl, hg, hN => by
    rw [List.range'_succ, List.map_cons]
    by_cases h1 : (ts.length : Int) < many
    · obtain ⟨v, g1, e1, v0, v1, hg1⟩ := grab_ok (g := g) (n := base) (N := N) (by omega) (by omega) hg (by omega)
      by_cases h2 : v < many
      · obtain ⟨w, g2, e2, w0, w1, hg2⟩ := grab_ok (g := g1) (n := 7) (N := N + 1) (by omega) (by omega) hg1 (by omega)
        obtain ⟨u, hu⟩ := tag_kind w0 w1
        obtain ⟨ts', g', c5', e, r⟩ := dt_loop hb m (j + 1) (ts ++ [((j : Int), u)]) g2 (.val (.int j)) (N + 2) (by omega) (by have := ht.app (u := u) (by omega : (0 : Int) ≤ j); simpa using this) (by rw [List.length_append, List.length_singleton]; omega) (hg2.le (by omega)) (by omega)
        refine ⟨ts', g', c5', ?_, r.1, r.2.1, r.2.2.le (by omega)⟩
        rw [← e]
        have h3 : ts.length < 16777216 := by omega
        have h4 : List.map tgD (ts ++ [((j : Int), u)]) = List.map tgD ts ++ [.tup [.int j, u.s]] := by simp [tgD]
        rw [h4]
        clear e r hg hg1 hg2 hN hm ht hl hb h4 v0 v1 w0 w1
        walk_at "ev"
      · obtain ⟨ts', g', c5', e, r⟩ := dt_loop hb m (j + 1) ts g1 (.val (.int j)) (N + 1) (by omega) (ht.le (by omega)) (by omega) hg1 (by omega)
        refine ⟨ts', g', c5', ?_, r.1, r.2.1, r.2.2.le (by omega)⟩
        rw [← e]
        clear e r hg hg1 hN hm ht hl hb v0 v1
        walk_at "ev"
    · obtain ⟨ts', g', c5', e, r⟩ := dt_loop hb m (j + 1) ts g (.val (.int j)) N (by omega) (ht.le (by omega)) (by omega) hg (by omega)
      refine ⟨ts', g', c5', ?_, r.1, r.2.1, r.2.2.le (by omega)⟩
      rw [← e]
      clear e r hg hN hm ht hl hb
      walk_at "ev"
theorem drawn_tags {g : Bag} {base many N : Int} (hb : 2 ≤ base ∧ base ≤ 256) (hg : g.In N) (hN : N + 1000 < 2 ^ 60) : ∃ ts g', phi__law_drawn_tags [.lst g.d, .int base, .int many] = some (.d (.tup (ts.map tgD)), g'.d) ∧ TgOk ts base ∧ ts.length ≤ 256 ∧ Bag.In g' (N + 600) := by
  obtain ⟨ts, g', c5, e, r⟩ := dt_loop (many := many) hb base.toNat 0 [] g .un N (by omega) ⟨by simp, List.Pairwise.nil⟩ (by simp) hg (by omega)
  refine ⟨ts, g', ?_, r.1, r.2.1, r.2.2.le (by omega)⟩
  rw [← rg_range] at e
  have h0 : (0 ≤ base ∧ base ≤ 16777216) := by omega
  have h1 : 0 ≤ base := h0.1
  have h2 : base ≤ 16777216 := h0.2
  clear r hg hN hb h0
  rw [List.map_nil] at e
  unfold phi__law_drawn_tags g__law_drawn_tags
  walk_at "ev"
end Dv

set_option Elab.async false
set_option linter.all false
set_option maxRecDepth 100000
set_option maxHeartbeats 4000000
namespace Dv
open PySem PySem.Spec PyProof.Rows L2
local macro_rules | `(tactic| walk_at "ev") => `(tactic| simp only [kRet_s, ev_name, ev_c, nm_val, nm_own, nm_bor, der_d, der_nw, der_sl, sl_own, sl_bor, sl_val, ev_bin, kBin_s, kBin2_s, kBin3_s, kBin4_s, ev_b1, kOne_s, kOne2_s, kRetD_s, ev_un, kUn1_s, kUn12_s, gNeg_i, ev_test, kTst_s, ev_and, ev_or, ev_not, kAnd_t, kAnd_f, kOr_t, kOr_f, kNot_s, ev_notV, kBl_s, ev_andV, ev_orV, kAndV_t, kAndV_f, kOrV_t, kOrV_f, ev_if, kIfE_t, kIfE_f, ev_yes, ev_ch, kCh_s, kCh2_s, kCh3_s, kCh4_s, kCh5_t, kCh5_f, ev_nil, ev_cons, kC1_s, kC2_s, ev_rev, kRv_s, escs_nil, escs_cons, kX1_s, kX2_s, esc_d, esc_nw, esc_sl, escS_own, escS_val, ev_tup, kT1_s, kT2_s, ev_lst, kL1_s, kL2_s, ev_pno, ev_pzero, ev_pint, kPI_s, ev_sl, kS1_s, kS2_s, kS3_s, kS4_s, ev_lrg, kR1_s, kR2_s, ev_call, kF1_s, kF2_s, kF3_s, ders_nil, ders_cons, kD1_s, kD2_s, rt_d, rt_nw, ev_call1, kG1_s, kG2_s, kG3_s, kG4_s, ow_own, ow_bor, put_own, put_bor, ev_iseq, kI1_s, kI2_t, kI2_l, kI2_f, ev_irg1, kN1_u, kN1_i, ev_irg2, kN2_s, kN3_u, ev_lc, kV1_s, kV2_s, ev_seq, kSeq_n, kSeq_r, kSeq_b, kSeq_c, ev_skip, ev_break, ev_cont, ev_retN, ev_ret, kRt_s, ev_sif, kIf_t, kIf_f, ev_drop, kDr_s, ev_set, kSt_s, kSt2_s, ev_own, kOw_s, ev_unp, kUn_s, kUn2_s, kNx_s, bt_nm, bt_tp, sa_nil, sa_cons, ev_par, kPa_s, sp_nil, sp_own, sp_val, ev_app, kAp_s, kAp2_s, kAp3_s, kAp4_s, ev_sti, kSi_s, kSi2_s, kSi3_s, kSi4_s, kSi5_s, kSi6_s, ev_aug, kAg_s, kAg2_s, val_s, ev_for, kFo_s, loop_nil, loop_cons, kLp_s, kLp_n, kLp_c, kLp_b, kLp_r, ev_while, while_s, kWh_f, kWh_t, kWh_n, kWh_c, kWh_b, kWh_r, lc_nil, lc_cons, kLc1_s, kLc2_t, kLc2_f, kLc3_s, kLc4_s, run0_k, kE0_r, kE0_n, rtOf_d, rtOf_nw, rtOf_sl, rtS_own, run1_k, kE1_r, kE1_n, kE2_s, bor_s, gAdd_i, gAdd_l, gAdd_t, gSub_i, gMul_i, gMod_i, gDiv_i, gPow_i, gEq_i, gEq_s, gEq_b, gCmp_i, gIs_n, gInt_i, gInt_b, gMax_i, gMin_i, gAbs_i, gTup_t, gTup_l, gLen_t, gLen_l, gLen_f, gIx_t, gIx_l, gIx_f, kIx_s, at_0, at_1, at_2, at_3, at_4, at_5, gSl_t, gSl_l,
  List.map_cons, List.map_nil, List.cons_append, List.nil_append, List.append_nil, List.length_cons, List.length_nil, List.replicate_succ, List.replicate_zero, Nat.reduceSub, Nat.reduceAdd, List.getElem?_cons_zero, List.getElem?_cons_succ, List.getElem?_nil, List.set_cons_zero, List.set_cons_succ, List.set_nil, Nat.zero_add, Nat.add_zero,
  List.all_cons, List.all_nil, notSl, Bool.and_true, Bool.true_and, Bool.or_true, Bool.true_or, Bool.and_false, Bool.false_and, Bool.or_false, Bool.false_or, if_true, if_false, Bool.false_eq_true, reduceIte, Bool.not_true, Bool.not_false, Bool.bne_true, Bool.bne_false, decide_true, decide_false, wipeE, backE, backS, nc_0, List.length_map, rg_len, Nat.reduceLeDiff, fd_ix, fi_ix, fi_len, fi_it, dcs, eq_self, Int.reduceEq, Int.reduceLT, Int.reduceLE, Int.reduceAdd, Int.reduceSub, Int.reduceMul, Int.reduceToNat, gIs_c, mkD_n, mkD_s, items, and_true, true_and, and_self, bne_self_eq_false, wt, gIn_t, gIsi_i, gIsi_t, gIsi_s, gIsi_n, gIsi_b, gIsi_l, isi2_c, gEq_n, gEq_l, flatD, eqF_s, eqF_i, eqF_n, List.any_cons, List.any_nil, Rt.o, Option.bind_some, phi0_s, phi1_s, List.reverse_cons, List.reverse_nil, decide_eq_true_eq, *])
/-! ### drawn formats -/
theorem hd_lc {base : Int} (hb : 2 ≤ base ∧ base ≤ 256) {e2 e3 e4 e5 e6 e7 e8 e9 : Sl} : ∀ (ds : List D) (g : Bag) (N : Int) (acc : List D), acc.length + ds.length ≤ 16777216 → g.In N → N + 2 * (ds.length : Int) < 2 ^ 60 →
    ∃ (hs : List (Option Int)) (g' : Bag), lcD (.nm 10) fYes dfE [10] ds [.bor g.d, .val (.int base), e2, e3, e4, e5, e6, e7, e8, e9, .un] acc = some (acc ++ hs.map mkD, [.bor g'.d, .val (.int base), e2, e3, e4, e5, e6, e7, e8, e9, .un]) ∧ hs.length = ds.length ∧ (∀ k, some k ∈ hs → 0 ≤ k ∧ k < base) ∧ Bag.In g' (N + 2 * (ds.length : Int))
  | [], g, N, acc, _, hg, _ => ⟨[], g, by rw [lc_nil, List.map_nil, List.append_nil], rfl, (fun k h => nomatch h), by simpa using hg⟩
  | d :: ds, g, N, acc, hl, hg, hN => by
    rw [List.length_cons] at hl hN
    obtain ⟨v, g1, q1, v0, v1, hg1⟩ := grab_ok (g := g) (n := 3) (N := N) (by omega) (by omega) hg (by omega)
    have hla : acc.length < 16777216 := by omega
    by_cases h : v = 0
    · obtain ⟨hs, g', e, r1, r2, r3⟩ := hd_lc hb (e2 := e2) (e3 := e3) (e4 := e4) (e5 := e5) (e6 := e6) (e7 := e7) (e8 := e8) (e9 := e9) ds g1 (N + 1) (acc ++ [.non]) (by rw [List.length_append, List.length_singleton]; omega) hg1 (by omega)
      refine ⟨none :: hs, g', ?_, by rw [List.length_cons, List.length_cons, r1], (fun k hk => r2 k (by simpa using hk)), r3.le (by rw [List.length_cons]; omega)⟩
      rw [List.map_cons, mkD_n, show acc ++ D.non :: hs.map mkD = (acc ++ [.non]) ++ hs.map mkD by simp, ← e]
      subst h
      clear e r1 r2 r3 hl hN hg hg1 v0 v1 hb
      walk_at "ev"
    · obtain ⟨w, g2, q2, w0, w1, hg2⟩ := grab_ok (g := g1) (n := base) (N := N + 1) (by omega) (by omega) hg1 (by omega)
      obtain ⟨hs, g', e, r1, r2, r3⟩ := hd_lc hb (e2 := e2) (e3 := e3) (e4 := e4) (e5 := e5) (e6 := e6) (e7 := e7) (e8 := e8) (e9 := e9) ds g2 (N + 2) (acc ++ [.int w]) (by rw [List.length_append, List.length_singleton]; omega) (hg2.le (by omega)) (by omega)
      refine ⟨some w :: hs, g', ?_, by rw [List.length_cons, List.length_cons, r1], (fun k hk => by
        rcases List.mem_cons.mp hk with hk | hk
        · cases hk; exact ⟨w0, w1⟩
        · exact r2 k hk), r3.le (by rw [List.length_cons]; omega)⟩
      rw [List.map_cons, mkD_s, show acc ++ D.int w :: hs.map mkD = (acc ++ [.int w]) ++ hs.map mkD by simp, ← e]
      have h2 : decide (v = 0) = false := decide_eq_false h
      clear e r1 r2 r3 hl hN hg hg1 hg2 v0 v1 w0 w1 hb h
      walk_at "ev"
theorem wide_pick {v : Int} (h0 : 0 ≤ v) (h1 : v < 4) : ∃ u : Wd, atI [D.str "one", .str "one", .str "high", .str "low"] v = some u.s := by
  have : v = 0 ∨ v = 1 ∨ v = 2 ∨ v = 3 := by omega
  rcases this with rfl | rfl | rfl | rfl
  · exact ⟨.one, rfl⟩
  · exact ⟨.one, rfl⟩
  · exact ⟨.high, rfl⟩
  · exact ⟨.low, rfl⟩
theorem other_pick {v : Int} (h0 : 0 ≤ v) (h1 : v < 2) : ∃ u : Ot, atI [D.str "skip", .str "refuse"] v = some u.s := by
  have : v = 0 ∨ v = 1 := by omega
  rcases this with rfl | rfl
  · exact ⟨.skip, rfl⟩
  · exact ⟨.refuse, rfl⟩
theorem drawn_form {g : Bag} {base marks most many N : Int} (hb : 2 ≤ base ∧ base ≤ 256) (hm : 0 ≤ marks ∧ marks ≤ 900) (hs : 0 ≤ most ∧ most ≤ 65535) (hy : 0 ≤ many ∧ many ≤ 900) (hg : g.In N) (hN : N + 10000 < 2 ^ 60) :
    ∃ f g', phi__law_drawn_form [.lst g.d, .int base, .int marks, .int most, .int many] = some (.d (Frm.d f), Bag.d g') ∧ f.Ok ∧ f.base = base ∧ f.head.length ≤ 900 ∧ Bag.In g' (N + 5000) := by
  obtain ⟨v1, g1, q1, a1, b1, i1⟩ := grab_ok (n := marks + 1) (by omega) (by omega) hg (by omega)
  obtain ⟨hs', g2, q2, len2, ok2, i2⟩ := hd_lc hb (e2 := .val (.int marks)) (e3 := .val (.int most)) (e4 := .val (.int many)) (e5 := .val (.int v1)) (e6 := .un) (e7 := .un) (e8 := .un) (e9 := .un) (rgD 0 v1.toNat) g1 (N + 1) [] (by rw [rg_len]; simp; omega) i1 (by rw [rg_len]; omega)
  rw [rg_len] at len2 i2
  have i2' := i2.le (m := N + 2000) (by omega)
  obtain ⟨v3, g3, q3, a3, b3, i3⟩ := grab_ok (n := 4) (by omega) (by omega) i2' (by omega)
  obtain ⟨wd, hwd⟩ := wide_pick a3 b3
  obtain ⟨v4, g4, q4, a4, b4, i4⟩ := grab_ok (n := most + 1) (by omega) (by omega) i3 (by omega)
  obtain ⟨v5, g5, q5, a5, b5, i5⟩ := grab_ok (n := many + 1) (by omega) (by omega) i4 (by omega)
  obtain ⟨ts, g6, q6, ok6, l6, i6⟩ := drawn_tags (many := v5) hb i5 (by omega)
  obtain ⟨v7, g7, q7, a7, b7, i7⟩ := grab_ok (n := 2) (by omega) (by omega) i6 (by omega)
  obtain ⟨ot, hot⟩ := other_pick a7 b7
  refine ⟨⟨base, hs', wd, v4, ts, ot⟩, g7, ?_, ⟨hb.1, hb.2, ok2, by show hs'.length ≤ 1000; omega, a4, by show v4 ≤ 65535; omega, ok6.r, ok6.p, by show ts.length ≤ 1000; omega⟩, rfl, by show hs'.length ≤ 900; omega, i7.le (by omega)⟩
  have hf : Frm.d ⟨base, hs', wd, v4, ts, ot⟩ = .tup [.int base, .tup (hs'.map mkD), wd.s, .int v4, .tup (ts.map tgD), ot.s] := rfl
  rw [hf]
  have n1 : 0 ≤ v1 := a1
  have n2 : v1 ≤ 16777216 := by omega
  rw [List.nil_append] at q2
  clear hf i1 i2 i2' i3 i4 i5 i6 i7 len2 ok2 ok6 l6 a1 b1 a3 b3 a4 b4 a5 b5 a7 b7 hg hN hy hs hm hb
  unfold phi__law_drawn_form g__law_drawn_form
  walk_at "ev"
theorem pick2 {v x y : Int} (h0 : 0 ≤ v) (h1 : v < 2) : ∃ u : Int, atI [D.int x, .int y] v = some (.int u) ∧ (u = x ∨ u = y) := by
  have : v = 0 ∨ v = 1 := by omega
  rcases this with rfl | rfl
  · exact ⟨x, rfl, .inl rfl⟩
  · exact ⟨y, rfl, .inr rfl⟩
theorem pick3 {v x y z : Int} (h0 : 0 ≤ v) (h1 : v < 3) : ∃ u : Int, atI [D.int x, .int y, .int z] v = some (.int u) ∧ (u = x ∨ u = y ∨ u = z) := by
  have : v = 0 ∨ v = 1 ∨ v = 2 := by omega
  rcases this with rfl | rfl | rfl
  · exact ⟨x, rfl, .inl rfl⟩
  · exact ⟨y, rfl, .inr (.inl rfl)⟩
  · exact ⟨z, rfl, .inr (.inr rfl)⟩
theorem law_bag {ns : List Int} {at' : Nat} (ha : at' ≤ 1000) : ∃ g, phi__law_bag [.frl (ns.map .int), .int at'] = some (.nw (Bag.d g)) ∧ g.In 0 := by
  obtain ⟨K, k1, k2, k3⟩ : ∃ K : Int, gPow (.int 10) (.int 37) = some (.d (.int K)) ∧ 0 < K ∧ K < 2 ^ 150 := ⟨10 ^ 37, pow_s (k := 5) (by decide) (by decide) (by decide) (by decide) (by decide), by decide, by decide⟩
  obtain ⟨L, l1⟩ : ∃ K : Int, gPow (.int 10) (.int 18) = some (.d (.int K)) := ⟨10 ^ 18, pow_s (k := 5) (by decide) (by decide) (by decide) (by decide) (by decide)⟩
  have key : ∀ c : Int, (∃ g, (∃ r : Int, gMax (.int 0) (.int ((if c < 0 then -c else c) - L)) = some (.d (.int r)) ∧ Bag.a g = r) ∧ gMod (.int c) (.int (K + 163)) = some (.d (.int (c % (K + 163)))) ∧ gMul (.int (c % (K + 163))) (.int 89) = some (.d (.int (c % (K + 163) * 89))) ∧ gMul (.int 71) (.int (at' : Int)) = some (.d (.int (71 * (at' : Int)))) ∧ g.b = c % (K + 163) * 89 + 71 * (at' : Int) + 53 ∧ g.c = 0 ∧ g.In 0) := fun c => by
    have h1 := Int.emod_nonneg c (show K + 163 ≠ 0 by omega)
    have h2 := Int.emod_lt_of_pos c (show 0 < K + 163 by omega)
    refine ⟨⟨_, c % (K + 163) * 89 + 71 * (at' : Int) + 53, 0⟩, ⟨_, rfl, rfl⟩, gMod_i (by omega), ?_, mul_s (by omega) (by omega) (by omega) (by omega), rfl, rfl, ⟨?_, ?_, ?_, ?_⟩⟩
    · apply gMul_i
      have := lg (i := c % (K + 163)) (k := 200) h1 (by omega)
      have := lg (i := 89) (k := 10) (by decide) (by decide)
      omega
    all_goals (dsimp only; omega)
  by_cases hl : (at' : Int) < ns.length
  · obtain ⟨⟨ga, gb, gc⟩, ⟨r, m1, m2⟩, m3, m4, m5, m6, m7, m8⟩ := key ns[at']
    refine ⟨_, ?_, m8⟩
    dsimp only at m2 m6 m7
    subst m2 m6 m7
    have e1 : atI (ns.map D.int) (at' : Int) = some (.int ns[at']) := at_map (by omega) (List.getElem?_eq_getElem (by omega))
    dsimp only [Bag.d]
    clear k2 k3 key m8 ha
    unfold phi__law_bag g__law_bag
    walk_at "ev"
  · obtain ⟨⟨ga, gb, gc⟩, ⟨r, m1, m2⟩, m3, m4, m5, m6, m7, m8⟩ := key 0
    refine ⟨_, ?_, m8⟩
    dsimp only at m2 m6 m7
    subst m2 m6 m7
    have e1 : gAbs (.int 0) = some (.d (.int (if (0 : Int) < 0 then -0 else 0))) := rfl
    dsimp only [Bag.d]
    clear k2 k3 key m8 ha
    unfold phi__law_bag g__law_bag
    have m9 : (if 0 - L > 0 then 0 - L else 0) = ga := by
      rw [gMax_i, if_neg (show ¬ (0 : Int) < 0 by decide)] at m1
      injection m1 with m1; injection m1 with m1; injection m1
    rw [← m9]
    clear m1 m9
    walk_at "ev"
end Dv

set_option Elab.async false
set_option linter.all false
set_option maxRecDepth 100000
set_option maxHeartbeats 4000000
namespace Dv
open PySem PySem.Spec PyProof.Rows L2
local macro_rules | `(tactic| walk_at "ev") => `(tactic| simp only [kRet_s, ev_name, ev_c, nm_val, nm_own, nm_bor, der_d, der_nw, der_sl, sl_own, sl_bor, sl_val, ev_bin, kBin_s, kBin2_s, kBin3_s, kBin4_s, ev_b1, kOne_s, kOne2_s, kRetD_s, ev_un, kUn1_s, kUn12_s, gNeg_i, ev_test, kTst_s, ev_and, ev_or, ev_not, kAnd_t, kAnd_f, kOr_t, kOr_f, kNot_s, ev_notV, kBl_s, ev_andV, ev_orV, kAndV_t, kAndV_f, kOrV_t, kOrV_f, ev_if, kIfE_t, kIfE_f, ev_yes, ev_ch, kCh_s, kCh2_s, kCh3_s, kCh4_s, kCh5_t, kCh5_f, ev_nil, ev_cons, kC1_s, kC2_s, ev_rev, kRv_s, escs_nil, escs_cons, kX1_s, kX2_s, esc_d, esc_nw, esc_sl, escS_own, escS_val, ev_tup, kT1_s, kT2_s, ev_lst, kL1_s, kL2_s, ev_pno, ev_pzero, ev_pint, kPI_s, ev_sl, kS1_s, kS2_s, kS3_s, kS4_s, ev_lrg, kR1_s, kR2_s, ev_call, kF1_s, kF2_s, kF3_s, ders_nil, ders_cons, kD1_s, kD2_s, rt_d, rt_nw, ev_call1, kG1_s, kG2_s, kG3_s, kG4_s, ow_own, ow_bor, put_own, put_bor, ev_iseq, kI1_s, kI2_t, kI2_l, kI2_f, ev_irg1, kN1_u, kN1_i, ev_irg2, kN2_s, kN3_u, ev_lc, kV1_s, kV2_s, ev_seq, kSeq_n, kSeq_r, kSeq_b, kSeq_c, ev_skip, ev_break, ev_cont, ev_retN, ev_ret, kRt_s, ev_sif, kIf_t, kIf_f, ev_drop, kDr_s, ev_set, kSt_s, kSt2_s, ev_own, kOw_s, ev_unp, kUn_s, kUn2_s, kNx_s, bt_nm, bt_tp, sa_nil, sa_cons, ev_par, kPa_s, sp_nil, sp_own, sp_val, ev_app, kAp_s, kAp2_s, kAp3_s, kAp4_s, ev_sti, kSi_s, kSi2_s, kSi3_s, kSi4_s, kSi5_s, kSi6_s, ev_aug, kAg_s, kAg2_s, val_s, ev_for, kFo_s, loop_nil, loop_cons, kLp_s, kLp_n, kLp_c, kLp_b, kLp_r, ev_while, while_s, kWh_f, kWh_t, kWh_n, kWh_c, kWh_b, kWh_r, lc_nil, lc_cons, kLc1_s, kLc2_t, kLc2_f, kLc3_s, kLc4_s, run0_k, kE0_r, kE0_n, rtOf_d, rtOf_nw, rtOf_sl, rtS_own, run1_k, kE1_r, kE1_n, kE2_s, bor_s, gAdd_i, gAdd_l, gAdd_t, gSub_i, gMul_i, gMod_i, gDiv_i, gPow_i, gEq_i, gEq_s, gEq_b, gCmp_i, gIs_n, gInt_i, gInt_b, gMax_i, gMin_i, gAbs_i, gTup_t, gTup_l, gLen_t, gLen_l, gLen_f, gIx_t, gIx_l, gIx_f, kIx_s, at_0, at_1, at_2, at_3, at_4, at_5, gSl_t, gSl_l,
  List.map_cons, List.map_nil, List.cons_append, List.nil_append, List.append_nil, List.length_cons, List.length_nil, List.replicate_succ, List.replicate_zero, Nat.reduceSub, Nat.reduceAdd, List.getElem?_cons_zero, List.getElem?_cons_succ, List.getElem?_nil, List.set_cons_zero, List.set_cons_succ, List.set_nil, Nat.zero_add, Nat.add_zero,
  List.all_cons, List.all_nil, notSl, Bool.and_true, Bool.true_and, Bool.or_true, Bool.true_or, Bool.and_false, Bool.false_and, Bool.or_false, Bool.false_or, if_true, if_false, Bool.false_eq_true, reduceIte, Bool.not_true, Bool.not_false, Bool.bne_true, Bool.bne_false, decide_true, decide_false, wipeE, backE, backS, nc_0, List.length_map, rg_len, Nat.reduceLeDiff, fd_ix, fi_ix, fi_len, fi_it, dcs, eq_self, Int.reduceEq, Int.reduceLT, Int.reduceLE, Int.reduceAdd, Int.reduceSub, Int.reduceMul, Int.reduceToNat, gIs_c, mkD_n, mkD_s, items, and_true, true_and, and_self, bne_self_eq_false, wt, gIn_t, gIsi_i, gIsi_t, gIsi_s, gIsi_n, gIsi_b, gIsi_l, isi2_c, gEq_n, gEq_l, flatD, eqF_s, eqF_i, eqF_n, List.any_cons, List.any_nil, Rt.o, Option.bind_some, phi0_s, phi1_s, List.reverse_cons, List.reverse_nil, decide_eq_true_eq, *])
/-! ### drawn files -/
def Signs (f : Frm) (xs : List Int) : Prop := ∀ x ∈ xs, 0 ≤ x ∧ x < f.base
theorem Signs.app {f : Frm} {xs ys : List Int} (h : Signs f xs) (h2 : Signs f ys) : Signs f (xs ++ ys) := fun x hx => by
  rcases List.mem_append.mp hx with hx | hx
  · exact h x hx
  · exact h2 x hx
theorem Signs.one {f : Frm} {x : Int} (h : 0 ≤ x ∧ x < f.base) : Signs f [x] := fun y hy => by rw [List.mem_singleton.mp hy]; exact h
theorem Signs.cons {f : Frm} {x : Int} {xs : List Int} (h : 0 ≤ x ∧ x < f.base) (h2 : Signs f xs) : Signs f (x :: xs) := Signs.app (Signs.one h) h2
theorem Signs.nil {f : Frm} : Signs f [] := fun _ h => nomatch h
theorem Signs.take {f : Frm} {xs : List Int} {n : Nat} (h : Signs f xs) : Signs f (xs.take n) := fun x hx => h x (List.mem_of_mem_take hx)
theorem Signs.drop {f : Frm} {xs : List Int} {n : Nat} (h : Signs f xs) : Signs f (xs.drop n) := fun x hx => h x (List.mem_of_mem_drop hx)
end Dv

set_option Elab.async false
set_option linter.all false
set_option maxRecDepth 100000
set_option maxHeartbeats 4000000
namespace Dv
open PySem PySem.Spec PyProof.Rows L2
local macro_rules | `(tactic| walk_at "ev") => `(tactic| simp only [kRet_s, ev_name, ev_c, nm_val, nm_own, nm_bor, der_d, der_nw, der_sl, sl_own, sl_bor, sl_val, ev_bin, kBin_s, kBin2_s, kBin3_s, kBin4_s, ev_b1, kOne_s, kOne2_s, kRetD_s, ev_un, kUn1_s, kUn12_s, gNeg_i, ev_test, kTst_s, ev_and, ev_or, ev_not, kAnd_t, kAnd_f, kOr_t, kOr_f, kNot_s, ev_notV, kBl_s, ev_andV, ev_orV, kAndV_t, kAndV_f, kOrV_t, kOrV_f, ev_if, kIfE_t, kIfE_f, ev_yes, ev_ch, kCh_s, kCh2_s, kCh3_s, kCh4_s, kCh5_t, kCh5_f, ev_nil, ev_cons, kC1_s, kC2_s, ev_rev, kRv_s, escs_nil, escs_cons, kX1_s, kX2_s, esc_d, esc_nw, esc_sl, escS_own, escS_val, ev_tup, kT1_s, kT2_s, ev_lst, kL1_s, kL2_s, ev_pno, ev_pzero, ev_pint, kPI_s, ev_sl, kS1_s, kS2_s, kS3_s, kS4_s, ev_lrg, kR1_s, kR2_s, ev_call, kF1_s, kF2_s, kF3_s, ders_nil, ders_cons, kD1_s, kD2_s, rt_d, rt_nw, ev_call1, kG1_s, kG2_s, kG3_s, kG4_s, ow_own, ow_bor, put_own, put_bor, ev_iseq, kI1_s, kI2_t, kI2_l, kI2_f, ev_irg1, kN1_u, kN1_i, ev_irg2, kN2_s, kN3_u, ev_lc, kV1_s, kV2_s, ev_seq, kSeq_n, kSeq_r, kSeq_b, kSeq_c, ev_skip, ev_break, ev_cont, ev_retN, ev_ret, kRt_s, ev_sif, kIf_t, kIf_f, ev_drop, kDr_s, ev_set, kSt_s, kSt2_s, ev_own, kOw_s, ev_unp, kUn_s, kUn2_s, kNx_s, bt_nm, bt_tp, sa_nil, sa_cons, ev_par, kPa_s, sp_nil, sp_own, sp_val, ev_app, kAp_s, kAp2_s, kAp3_s, kAp4_s, ev_sti, kSi_s, kSi2_s, kSi3_s, kSi4_s, kSi5_s, kSi6_s, ev_aug, kAg_s, kAg2_s, val_s, ev_for, kFo_s, loop_nil, loop_cons, kLp_s, kLp_n, kLp_c, kLp_b, kLp_r, ev_while, while_s, kWh_f, kWh_t, kWh_n, kWh_c, kWh_b, kWh_r, lc_nil, lc_cons, kLc1_s, kLc2_t, kLc2_f, kLc3_s, kLc4_s, run0_k, kE0_r, kE0_n, rtOf_d, rtOf_nw, rtOf_sl, rtS_own, run1_k, kE1_r, kE1_n, kE2_s, bor_s, gAdd_i, gAdd_l, gAdd_t, gSub_i, gMul_i, gMod_i, gDiv_i, gPow_i, gEq_i, gEq_s, gEq_b, gCmp_i, gIs_n, gInt_i, gInt_b, gMax_i, gMin_i, gAbs_i, gTup_t, gTup_l, gLen_t, gLen_l, gLen_f, gIx_t, gIx_l, gIx_f, kIx_s, at_0, at_1, at_2, at_3, at_4, at_5, gSl_t, gSl_l,
  List.map_cons, List.map_nil, List.cons_append, List.nil_append, List.append_nil, List.length_cons, List.length_nil, List.replicate_succ, List.replicate_zero, Nat.reduceSub, Nat.reduceAdd, List.getElem?_cons_zero, List.getElem?_cons_succ, List.getElem?_nil, List.set_cons_zero, List.set_cons_succ, List.set_nil, Nat.zero_add, Nat.add_zero,
  List.all_cons, List.all_nil, notSl, Bool.and_true, Bool.true_and, Bool.or_true, Bool.true_or, Bool.and_false, Bool.false_and, Bool.or_false, Bool.false_or, if_true, if_false, Bool.false_eq_true, reduceIte, Bool.not_true, Bool.not_false, Bool.bne_true, Bool.bne_false, decide_true, decide_false, wipeE, backE, backS, nc_0, List.length_map, List.length_append, rg_len, Nat.reduceLeDiff, fd_ix, fi_ix, fi_len, fi_it, dcs, eq_self, Int.reduceEq, Int.reduceLT, Int.reduceLE, Int.reduceAdd, Int.reduceSub, Int.reduceMul, Int.reduceToNat, gIs_c, mkD_n, mkD_s, items, and_true, true_and, and_self, bne_self_eq_false, wt, gIn_t, gIsi_i, gIsi_t, gIsi_s, gIsi_n, gIsi_b, gIsi_l, isi2_c, gEq_n, gEq_l, flatD, eqF_s, eqF_i, eqF_n, List.any_cons, List.any_nil, Rt.o, Option.bind_some, phi0_s, phi1_s, List.reverse_cons, List.reverse_nil, decide_eq_true_eq, *])
/-! ### drawn files, the loop -/
theorem min_cut2 {x y : Int} (hx : 0 ≤ x) (hy : 0 ≤ y) : ∃ v, (if y < x then y else x) = v ∧ 0 ≤ v ∧ v ≤ y := by
  by_cases h : y < x
  · exact ⟨y, if_pos h, by omega, by omega⟩
  · exact ⟨x, if_neg h, by omega, by omega⟩
end Dv

set_option Elab.async false
set_option linter.all false
set_option maxRecDepth 100000
set_option maxHeartbeats 4000000
namespace Dv
open PySem PySem.Spec PyProof.Rows L2
local macro_rules | `(tactic| walk_at "ev") => `(tactic| simp only [kRet_s, ev_name, ev_c, nm_val, nm_own, nm_bor, der_d, der_nw, der_sl, sl_own, sl_bor, sl_val, ev_bin, kBin_s, kBin2_s, kBin3_s, kBin4_s, ev_b1, kOne_s, kOne2_s, kRetD_s, ev_un, kUn1_s, kUn12_s, gNeg_i, ev_test, kTst_s, ev_and, ev_or, ev_not, kAnd_t, kAnd_f, kOr_t, kOr_f, kNot_s, ev_notV, kBl_s, ev_andV, ev_orV, kAndV_t, kAndV_f, kOrV_t, kOrV_f, ev_if, kIfE_t, kIfE_f, ev_yes, ev_ch, kCh_s, kCh2_s, kCh3_s, kCh4_s, kCh5_t, kCh5_f, ev_nil, ev_cons, kC1_s, kC2_s, ev_rev, kRv_s, escs_nil, escs_cons, kX1_s, kX2_s, esc_d, esc_nw, esc_sl, escS_own, escS_val, ev_tup, kT1_s, kT2_s, ev_lst, kL1_s, kL2_s, ev_pno, ev_pzero, ev_pint, kPI_s, ev_sl, kS1_s, kS2_s, kS3_s, kS4_s, ev_lrg, kR1_s, kR2_s, ev_call, kF1_s, kF2_s, kF3_s, ders_nil, ders_cons, kD1_s, kD2_s, rt_d, rt_nw, ev_call1, kG1_s, kG2_s, kG3_s, kG4_s, ow_own, ow_bor, put_own, put_bor, ev_iseq, kI1_s, kI2_t, kI2_l, kI2_f, ev_irg1, kN1_u, kN1_i, ev_irg2, kN2_s, kN3_u, ev_lc, kV1_s, kV2_s, ev_seq, kSeq_n, kSeq_r, kSeq_b, kSeq_c, ev_skip, ev_break, ev_cont, ev_retN, ev_ret, kRt_s, ev_sif, kIf_t, kIf_f, ev_drop, kDr_s, ev_set, kSt_s, kSt2_s, ev_own, kOw_s, ev_unp, kUn_s, kUn2_s, kNx_s, bt_nm, bt_tp, sa_nil, sa_cons, ev_par, kPa_s, sp_nil, sp_own, sp_val, ev_app, kAp_s, kAp2_s, kAp3_s, kAp4_s, ev_sti, kSi_s, kSi2_s, kSi3_s, kSi4_s, kSi5_s, kSi6_s, ev_aug, kAg_s, kAg2_s, val_s, ev_for, kFo_s, loop_nil, loop_cons, kLp_s, kLp_n, kLp_c, kLp_b, kLp_r, ev_while, while_s, kWh_f, kWh_t, kWh_n, kWh_c, kWh_b, kWh_r, lc_nil, lc_cons, kLc1_s, kLc2_t, kLc2_f, kLc3_s, kLc4_s, run0_k, kE0_r, kE0_n, rtOf_d, rtOf_nw, rtOf_sl, rtS_own, run1_k, kE1_r, kE1_n, kE2_s, bor_s, gAdd_i, gAdd_l, gAdd_t, gSub_i, gMul_i, gMod_i, gDiv_i, gPow_i, gEq_i, gEq_s, gEq_b, gCmp_i, gIs_n, gInt_i, gInt_b, gMax_i, gMin_i, gAbs_i, gTup_t, gTup_l, gLen_t, gLen_l, gLen_f, gIx_t, gIx_l, gIx_f, kIx_s, at_0, at_1, at_2, at_3, at_4, at_5, gSl_t, gSl_l,
  List.map_cons, List.map_nil, List.cons_append, List.nil_append, List.append_nil, List.length_cons, List.length_nil, List.replicate_succ, List.replicate_zero, Nat.reduceSub, Nat.reduceAdd, List.getElem?_cons_zero, List.getElem?_cons_succ, List.getElem?_nil, List.set_cons_zero, List.set_cons_succ, List.set_nil, Nat.zero_add, Nat.add_zero,
  List.all_cons, List.all_nil, notSl, Bool.and_true, Bool.true_and, Bool.or_true, Bool.true_or, Bool.and_false, Bool.false_and, Bool.or_false, Bool.false_or, if_true, if_false, Bool.false_eq_true, reduceIte, Bool.not_true, Bool.not_false, Bool.bne_true, Bool.bne_false, decide_true, decide_false, wipeE, backE, backS, nc_0, List.length_map, List.length_append, rg_len, Nat.reduceLeDiff, fd_ix, fi_ix, fi_len, fi_it, dcs, eq_self, Int.reduceEq, Int.reduceLT, Int.reduceLE, Int.reduceAdd, Int.reduceSub, Int.reduceMul, Int.reduceToNat, gIs_c, mkD_n, mkD_s, items, and_true, true_and, and_self, bne_self_eq_false, wt, gIn_t, gIsi_i, gIsi_t, gIsi_s, gIsi_n, gIsi_b, gIsi_l, isi2_c, gEq_n, gEq_l, flatD, eqF_s, eqF_i, eqF_n, List.any_cons, List.any_nil, Rt.o, Option.bind_some, phi0_s, phi1_s, List.reverse_cons, List.reverse_nil, decide_eq_true_eq, *])
/-! ### drawn files, the end -/
end Dv

set_option Elab.async false
set_option linter.all false
set_option maxRecDepth 100000
set_option maxHeartbeats 4000000
namespace Dv
open PySem PySem.Spec PyProof.Rows L2
local macro_rules | `(tactic| walk_at "ev") => `(tactic| simp only [kRet_s, ev_name, ev_c, nm_val, nm_own, nm_bor, der_d, der_nw, der_sl, sl_own, sl_bor, sl_val, ev_bin, kBin_s, kBin2_s, kBin3_s, kBin4_s, ev_b1, kOne_s, kOne2_s, kRetD_s, ev_un, kUn1_s, kUn12_s, gNeg_i, ev_test, kTst_s, ev_and, ev_or, ev_not, kAnd_t, kAnd_f, kOr_t, kOr_f, kNot_s, ev_notV, kBl_s, ev_andV, ev_orV, kAndV_t, kAndV_f, kOrV_t, kOrV_f, ev_if, kIfE_t, kIfE_f, ev_yes, ev_ch, kCh_s, kCh2_s, kCh3_s, kCh4_s, kCh5_t, kCh5_f, ev_nil, ev_cons, kC1_s, kC2_s, ev_rev, kRv_s, escs_nil, escs_cons, kX1_s, kX2_s, esc_d, esc_nw, esc_sl, escS_own, escS_val, ev_tup, kT1_s, kT2_s, ev_lst, kL1_s, kL2_s, ev_pno, ev_pzero, ev_pint, kPI_s, ev_sl, kS1_s, kS2_s, kS3_s, kS4_s, ev_lrg, kR1_s, kR2_s, ev_call, kF1_s, kF2_s, kF3_s, ders_nil, ders_cons, kD1_s, kD2_s, rt_d, rt_nw, ev_call1, kG1_s, kG2_s, kG3_s, kG4_s, ow_own, ow_bor, put_own, put_bor, ev_iseq, kI1_s, kI2_t, kI2_l, kI2_f, ev_irg1, kN1_u, kN1_i, ev_irg2, kN2_s, kN3_u, ev_lc, kV1_s, kV2_s, ev_seq, kSeq_n, kSeq_r, kSeq_b, kSeq_c, ev_skip, ev_break, ev_cont, ev_retN, ev_ret, kRt_s, ev_sif, kIf_t, kIf_f, ev_drop, kDr_s, ev_set, kSt_s, kSt2_s, ev_own, kOw_s, ev_unp, kUn_s, kUn2_s, kNx_s, bt_nm, bt_tp, sa_nil, sa_cons, ev_par, kPa_s, sp_nil, sp_own, sp_val, ev_app, kAp_s, kAp2_s, kAp3_s, kAp4_s, ev_sti, kSi_s, kSi2_s, kSi3_s, kSi4_s, kSi5_s, kSi6_s, ev_aug, kAg_s, kAg2_s, val_s, ev_for, kFo_s, loop_nil, loop_cons, kLp_s, kLp_n, kLp_c, kLp_b, kLp_r, ev_while, while_s, kWh_f, kWh_t, kWh_n, kWh_c, kWh_b, kWh_r, lc_nil, lc_cons, kLc1_s, kLc2_t, kLc2_f, kLc3_s, kLc4_s, run0_k, kE0_r, kE0_n, rtOf_d, rtOf_nw, rtOf_sl, rtS_own, run1_k, kE1_r, kE1_n, kE2_s, bor_s, gAdd_i, gAdd_l, gAdd_t, gSub_i, gMul_i, gMod_i, gDiv_i, gPow_i, gEq_i, gEq_s, gEq_b, gCmp_i, gIs_n, gInt_i, gInt_b, gMax_i, gMin_i, gAbs_i, gTup_t, gTup_l, gLen_t, gLen_l, gLen_f, gIx_t, gIx_l, gIx_f, kIx_s, at_0, at_1, at_2, at_3, at_4, at_5, gSl_t, gSl_l,
  List.map_cons, List.map_nil, List.cons_append, List.nil_append, List.append_nil, List.length_cons, List.length_nil, List.replicate_succ, List.replicate_zero, Nat.reduceSub, Nat.reduceAdd, List.getElem?_cons_zero, List.getElem?_cons_succ, List.getElem?_nil, List.set_cons_zero, List.set_cons_succ, List.set_nil, Nat.zero_add, Nat.add_zero,
  List.all_cons, List.all_nil, notSl, Bool.and_true, Bool.true_and, Bool.or_true, Bool.true_or, Bool.and_false, Bool.false_and, Bool.or_false, Bool.false_or, if_true, if_false, Bool.false_eq_true, reduceIte, Bool.not_true, Bool.not_false, Bool.bne_true, Bool.bne_false, decide_true, decide_false, wipeE, backE, backS, nc_0, List.length_map, List.length_append, rg_len, Nat.reduceLeDiff, fd_ix, fi_ix, fi_len, fi_it, dcs, eq_self, Int.reduceEq, Int.reduceLT, Int.reduceLE, Int.reduceAdd, Int.reduceSub, Int.reduceMul, Int.reduceToNat, gIs_c, mkD_n, mkD_s, items, and_true, true_and, and_self, bne_self_eq_false, wt, gIn_t, gIsi_i, gIsi_t, gIsi_s, gIsi_n, gIsi_b, gIsi_l, isi2_c, gEq_n, gEq_l, ev_dk, kDk1_s, kDk2_s, kDk3_s, flatD, eqF_s, eqF_i, eqF_n, List.any_cons, List.any_nil, Rt.o, Option.bind_some, phi0_s, phi1_s, List.reverse_cons, List.reverse_nil, decide_eq_true_eq, *])
/-! ### refusals, exactly -/
def Std.name : Std → Str
  | .head _ => "head" | .tag => "tag" | .length _ => "length" | .second _ _ => "second" | .body _ _ _ => "body" | .sum _ => "sum" | .room => "room" | .over => "over"
def Std.word : Std → Str
  | .head _ => "head" | .tag => "tag" | .length _ => "length" | .second _ _ => "length" | .sum _ => "check" | .over => "behind" | _ => "none"
def endsW (f : Frm) : Std → Bool
  | .tag => (f.tags.filter fun t => t.2.isE).isEmpty
  | .room => true
  | .over => true
  | _ => false
end Dv

set_option Elab.async false
set_option linter.all false
set_option maxRecDepth 100000
set_option maxHeartbeats 4000000
namespace Dv
open PySem PySem.Spec PyProof.Rows L2
local macro_rules | `(tactic| walk_at "ev") => `(tactic| simp only [kRet_s, ev_name, ev_c, nm_val, nm_own, nm_bor, der_d, der_nw, der_sl, sl_own, sl_bor, sl_val, ev_bin, kBin_s, kBin2_s, kBin3_s, kBin4_s, ev_b1, kOne_s, kOne2_s, kRetD_s, ev_un, kUn1_s, kUn12_s, gNeg_i, ev_test, kTst_s, ev_and, ev_or, ev_not, kAnd_t, kAnd_f, kOr_t, kOr_f, kNot_s, ev_notV, kBl_s, ev_andV, ev_orV, kAndV_t, kAndV_f, kOrV_t, kOrV_f, ev_if, kIfE_t, kIfE_f, ev_yes, ev_ch, kCh_s, kCh2_s, kCh3_s, kCh4_s, kCh5_t, kCh5_f, ev_nil, ev_cons, kC1_s, kC2_s, ev_rev, kRv_s, escs_nil, escs_cons, kX1_s, kX2_s, esc_d, esc_nw, esc_sl, escS_own, escS_val, ev_tup, kT1_s, kT2_s, ev_lst, kL1_s, kL2_s, ev_pno, ev_pzero, ev_pint, kPI_s, ev_sl, kS1_s, kS2_s, kS3_s, kS4_s, ev_lrg, kR1_s, kR2_s, ev_call, kF1_s, kF2_s, kF3_s, ders_nil, ders_cons, kD1_s, kD2_s, rt_d, rt_nw, ev_call1, kG1_s, kG2_s, kG3_s, kG4_s, ow_own, ow_bor, put_own, put_bor, ev_iseq, kI1_s, kI2_t, kI2_l, kI2_f, ev_irg1, kN1_u, kN1_i, ev_irg2, kN2_s, kN3_u, ev_lc, kV1_s, kV2_s, ev_seq, kSeq_n, kSeq_r, kSeq_b, kSeq_c, ev_skip, ev_break, ev_cont, ev_retN, ev_ret, kRt_s, ev_sif, kIf_t, kIf_f, ev_drop, kDr_s, ev_set, kSt_s, kSt2_s, ev_own, kOw_s, ev_unp, kUn_s, kUn2_s, kNx_s, bt_nm, bt_tp, sa_nil, sa_cons, ev_par, kPa_s, sp_nil, sp_own, sp_val, ev_app, kAp_s, kAp2_s, kAp3_s, kAp4_s, ev_sti, kSi_s, kSi2_s, kSi3_s, kSi4_s, kSi5_s, kSi6_s, ev_aug, kAg_s, kAg2_s, val_s, ev_for, kFo_s, loop_nil, loop_cons, kLp_s, kLp_n, kLp_c, kLp_b, kLp_r, ev_while, while_s, kWh_f, kWh_t, kWh_n, kWh_c, kWh_b, kWh_r, lc_nil, lc_cons, kLc1_s, kLc2_t, kLc2_f, kLc3_s, kLc4_s, run0_k, kE0_r, kE0_n, rtOf_d, rtOf_nw, rtOf_sl, rtS_own, run1_k, kE1_r, kE1_n, kE2_s, bor_s, gAdd_i, gAdd_l, gAdd_t, gSub_i, gMul_i, gMod_i, gDiv_i, gPow_i, gEq_i, gEq_s, gEq_b, gCmp_i, gIs_n, gInt_i, gInt_b, gMax_i, gMin_i, gAbs_i, gTup_t, gTup_l, gLen_t, gLen_l, gLen_f, gIx_t, gIx_l, gIx_f, kIx_s, at_0, at_1, at_2, at_3, at_4, at_5, gSl_t, gSl_l,
  List.map_cons, List.map_nil, List.cons_append, List.nil_append, List.append_nil, List.length_cons, List.length_nil, List.replicate_succ, List.replicate_zero, Nat.reduceSub, Nat.reduceAdd, List.getElem?_cons_zero, List.getElem?_cons_succ, List.getElem?_nil, List.set_cons_zero, List.set_cons_succ, List.set_nil, Nat.zero_add, Nat.add_zero,
  List.all_cons, List.all_nil, notSl, Bool.and_true, Bool.true_and, Bool.or_true, Bool.true_or, Bool.and_false, Bool.false_and, Bool.or_false, Bool.false_or, if_true, if_false, Bool.false_eq_true, reduceIte, Bool.not_true, Bool.not_false, Bool.bne_true, Bool.bne_false, decide_true, decide_false, wipeE, backE, backS, nc_0, List.length_map, List.length_append, rg_len, Nat.reduceLeDiff, fd_ix, fi_ix, fi_len, fi_it, dcs, eq_self, Int.reduceEq, Int.reduceLT, Int.reduceLE, Int.reduceAdd, Int.reduceSub, Int.reduceMul, Int.reduceToNat, gIs_c, mkD_n, mkD_s, items, and_true, true_and, and_self, bne_self_eq_false, wt, gIn_t, gIsi_i, gIsi_t, gIsi_s, gIsi_n, gIsi_b, gIsi_l, isi2_c, gEq_n, gEq_l, ev_dk, kDk1_s, kDk2_s, kDk3_s, flatD, eqF_s, eqF_i, eqF_n, List.any_cons, List.any_nil, Rt.o, Option.bind_some, phi0_s, phi1_s, List.reverse_cons, List.reverse_nil, decide_eq_true_eq, *])
/-! ### the package's refusals -/
/-- what is refused, and where -/
inductive RfX (f : Frm) (s : Std) (xs : List Int) : D → Prop
  | read {t : Std} (h : beh f s xs = some t) (e : endsW f t = true) : RfX f s xs .non
  | short {t : Std} (h : beh f s xs = some t) (e : endsW f t = false) : RfX f s xs (.tup [.int xs.length, .str "short"])
  | bad {i : Nat} {t : Std} (hi : i < xs.length) (h : beh f s (xs.take i) = some t) (e : step f t xs[i] = none) : RfX f s xs (.tup [.int i, .str t.word])
theorem RfX.one {f : Frm} {s : Std} {xs : List Int} {c c' : D} (h : RfX f s xs c) (h' : RfX f s xs c') : c = c' := by
  have none_of : ∀ {i : Nat} {t : Std} (hi : i < xs.length), beh f s (xs.take i) = some t → step f t xs[i] = none → ∀ j, i < j → beh f s (xs.take j) = none := fun {i t} hi h1 h2 j hj => by
    rw [show j = i + (j - i) by omega, List.take_add, beh_app, h1]
    show beh f t _ = none
    rw [List.drop_eq_getElem_cons hi, show j - i = (j - i - 1) + 1 by omega, List.take_succ_cons, beh_cons, h2]
  have all_of : ∀ {i : Nat} {t : Std} (hi : i < xs.length), beh f s (xs.take i) = some t → step f t xs[i] = none → beh f s xs = none := fun {i t} hi h1 h2 => by
    have := none_of hi h1 h2 xs.length hi
    rwa [List.take_length] at this
  cases h with
  | read h e =>
    cases h' with
    | read h2 e2 => rfl
    | short h2 e2 => rw [h] at h2; cases h2; rw [e] at e2; cases e2
    | bad hi h2 e2 => rw [all_of hi h2 e2] at h; cases h
  | short h e =>
    cases h' with
    | read h2 e2 => rw [h] at h2; cases h2; rw [e] at e2; cases e2
    | short h2 e2 => rfl
    | bad hi h2 e2 => rw [all_of hi h2 e2] at h; cases h
  | bad hi h e =>
    cases h' with
    | read h2 e2 => rw [all_of hi h e] at h2; cases h2
    | short h2 e2 => rw [all_of hi h e] at h2; cases h2
    | @bad j t2 hj h2 e2 =>
      rename_i i t
      rcases Nat.lt_trichotomy i j with hlt | rfl | hlt
      · rw [none_of hi h e j hlt] at h2; cases h2
      · rw [h] at h2; cases h2; rfl
      · rw [none_of hj h2 e2 i hlt] at h; cases h
end Dv

set_option Elab.async false
set_option linter.all false
set_option maxRecDepth 100000
set_option maxHeartbeats 4000000
namespace Dv
open PySem PySem.Spec PyProof.Rows L2
local macro_rules | `(tactic| walk_at "ev") => `(tactic| simp only [kRet_s, ev_name, ev_c, nm_val, nm_own, nm_bor, der_d, der_nw, der_sl, sl_own, sl_bor, sl_val, ev_bin, kBin_s, kBin2_s, kBin3_s, kBin4_s, ev_b1, kOne_s, kOne2_s, kRetD_s, ev_un, kUn1_s, kUn12_s, gNeg_i, ev_test, kTst_s, ev_and, ev_or, ev_not, kAnd_t, kAnd_f, kOr_t, kOr_f, kNot_s, ev_notV, kBl_s, ev_andV, ev_orV, kAndV_t, kAndV_f, kOrV_t, kOrV_f, ev_if, kIfE_t, kIfE_f, ev_yes, ev_ch, kCh_s, kCh2_s, kCh3_s, kCh4_s, kCh5_t, kCh5_f, ev_nil, ev_cons, kC1_s, kC2_s, ev_rev, kRv_s, escs_nil, escs_cons, kX1_s, kX2_s, esc_d, esc_nw, esc_sl, escS_own, escS_val, ev_tup, kT1_s, kT2_s, ev_lst, kL1_s, kL2_s, ev_pno, ev_pzero, ev_pint, kPI_s, ev_sl, kS1_s, kS2_s, kS3_s, kS4_s, ev_lrg, kR1_s, kR2_s, ev_call, kF1_s, kF2_s, kF3_s, ders_nil, ders_cons, kD1_s, kD2_s, rt_d, rt_nw, ev_call1, kG1_s, kG2_s, kG3_s, kG4_s, ow_own, ow_bor, put_own, put_bor, ev_iseq, kI1_s, kI2_t, kI2_l, kI2_f, ev_irg1, kN1_u, kN1_i, ev_irg2, kN2_s, kN3_u, ev_lc, kV1_s, kV2_s, ev_seq, kSeq_n, kSeq_r, kSeq_b, kSeq_c, ev_skip, ev_break, ev_cont, ev_retN, ev_ret, kRt_s, ev_sif, kIf_t, kIf_f, ev_drop, kDr_s, ev_set, kSt_s, kSt2_s, ev_own, kOw_s, ev_unp, kUn_s, kUn2_s, kNx_s, bt_nm, bt_tp, sa_nil, sa_cons, ev_par, kPa_s, sp_nil, sp_own, sp_val, ev_app, kAp_s, kAp2_s, kAp3_s, kAp4_s, ev_sti, kSi_s, kSi2_s, kSi3_s, kSi4_s, kSi5_s, kSi6_s, ev_aug, kAg_s, kAg2_s, val_s, ev_for, kFo_s, loop_nil, loop_cons, kLp_s, kLp_n, kLp_c, kLp_b, kLp_r, ev_while, while_s, kWh_f, kWh_t, kWh_n, kWh_c, kWh_b, kWh_r, lc_nil, lc_cons, kLc1_s, kLc2_t, kLc2_f, kLc3_s, kLc4_s, run0_k, kE0_r, kE0_n, rtOf_d, rtOf_nw, rtOf_sl, rtS_own, run1_k, kE1_r, kE1_n, kE2_s, bor_s, gAdd_i, gAdd_l, gAdd_t, gSub_i, gMul_i, gMod_i, gDiv_i, gPow_i, gEq_i, gEq_s, gEq_b, gCmp_i, gIs_n, gInt_i, gInt_b, gMax_i, gMin_i, gAbs_i, gTup_t, gTup_l, gLen_t, gLen_l, gLen_f, gIx_t, gIx_l, gIx_f, kIx_s, at_0, at_1, at_2, at_3, at_4, at_5, gSl_t, gSl_l,
  List.map_cons, List.map_nil, List.cons_append, List.nil_append, List.append_nil, List.length_cons, List.length_nil, List.replicate_succ, List.replicate_zero, Nat.reduceSub, Nat.reduceAdd, List.getElem?_cons_zero, List.getElem?_cons_succ, List.getElem?_nil, List.set_cons_zero, List.set_cons_succ, List.set_nil, Nat.zero_add, Nat.add_zero,
  List.all_cons, List.all_nil, notSl, Bool.and_true, Bool.true_and, Bool.or_true, Bool.true_or, Bool.and_false, Bool.false_and, Bool.or_false, Bool.false_or, if_true, if_false, Bool.false_eq_true, reduceIte, Bool.not_true, Bool.not_false, Bool.bne_true, Bool.bne_false, decide_true, decide_false, wipeE, backE, backS, nc_0, List.length_map, List.length_append, rg_len, Nat.reduceLeDiff, fd_ix, fi_ix, fi_len, fi_it, dcs, eq_self, Int.reduceEq, Int.reduceLT, Int.reduceLE, Int.reduceAdd, Int.reduceSub, Int.reduceMul, Int.reduceToNat, gIs_c, mkD_n, mkD_s, items, and_true, true_and, and_self, bne_self_eq_false, wt, gIn_t, gIsi_i, gIsi_t, gIsi_s, gIsi_n, gIsi_b, gIsi_l, isi2_c, gEq_n, gEq_l, ev_dk, kDk1_s, kDk2_s, kDk3_s, flatD, eqF_s, eqF_i, eqF_n, List.any_cons, List.any_nil, Rt.o, Option.bind_some, phi0_s, phi1_s, List.reverse_cons, List.reverse_nil, decide_eq_true_eq, *])
/-! ### the law's reading, its refusal exactly -/
end Dv

set_option Elab.async false
set_option linter.all false
set_option maxRecDepth 100000
set_option maxHeartbeats 4000000
namespace Dv
open PySem PySem.Spec PyProof.Rows L2
local macro_rules | `(tactic| walk_at "ev") => `(tactic| simp only [kRet_s, ev_name, ev_c, nm_val, nm_own, nm_bor, der_d, der_nw, der_sl, sl_own, sl_bor, sl_val, ev_bin, kBin_s, kBin2_s, kBin3_s, kBin4_s, ev_b1, kOne_s, kOne2_s, kRetD_s, ev_un, kUn1_s, kUn12_s, gNeg_i, ev_test, kTst_s, ev_and, ev_or, ev_not, kAnd_t, kAnd_f, kOr_t, kOr_f, kNot_s, ev_notV, kBl_s, ev_andV, ev_orV, kAndV_t, kAndV_f, kOrV_t, kOrV_f, ev_if, kIfE_t, kIfE_f, ev_yes, ev_ch, kCh_s, kCh2_s, kCh3_s, kCh4_s, kCh5_t, kCh5_f, ev_nil, ev_cons, kC1_s, kC2_s, ev_rev, kRv_s, escs_nil, escs_cons, kX1_s, kX2_s, esc_d, esc_nw, esc_sl, escS_own, escS_val, ev_tup, kT1_s, kT2_s, ev_lst, kL1_s, kL2_s, ev_pno, ev_pzero, ev_pint, kPI_s, ev_sl, kS1_s, kS2_s, kS3_s, kS4_s, ev_lrg, kR1_s, kR2_s, ev_call, kF1_s, kF2_s, kF3_s, ders_nil, ders_cons, kD1_s, kD2_s, rt_d, rt_nw, ev_call1, kG1_s, kG2_s, kG3_s, kG4_s, ow_own, ow_bor, put_own, put_bor, ev_iseq, kI1_s, kI2_t, kI2_l, kI2_f, ev_irg1, kN1_u, kN1_i, ev_irg2, kN2_s, kN3_u, ev_lc, kV1_s, kV2_s, ev_seq, kSeq_n, kSeq_r, kSeq_b, kSeq_c, ev_skip, ev_break, ev_cont, ev_retN, ev_ret, kRt_s, ev_sif, kIf_t, kIf_f, ev_drop, kDr_s, ev_set, kSt_s, kSt2_s, ev_own, kOw_s, ev_unp, kUn_s, kUn2_s, kNx_s, bt_nm, bt_tp, sa_nil, sa_cons, ev_par, kPa_s, sp_nil, sp_own, sp_val, ev_app, kAp_s, kAp2_s, kAp3_s, kAp4_s, ev_sti, kSi_s, kSi2_s, kSi3_s, kSi4_s, kSi5_s, kSi6_s, ev_aug, kAg_s, kAg2_s, val_s, ev_for, kFo_s, loop_nil, loop_cons, kLp_s, kLp_n, kLp_c, kLp_b, kLp_r, ev_while, while_s, kWh_f, kWh_t, kWh_n, kWh_c, kWh_b, kWh_r, lc_nil, lc_cons, kLc1_s, kLc2_t, kLc2_f, kLc3_s, kLc4_s, run0_k, kE0_r, kE0_n, rtOf_d, rtOf_nw, rtOf_sl, rtS_own, run1_k, kE1_r, kE1_n, kE2_s, bor_s, gAdd_i, gAdd_l, gAdd_t, gSub_i, gMul_i, gMod_i, gDiv_i, gPow_i, gEq_i, gEq_s, gEq_b, gCmp_i, gIs_n, gInt_i, gInt_b, gMax_i, gMin_i, gAbs_i, gTup_t, gTup_l, gLen_t, gLen_l, gLen_f, gIx_t, gIx_l, gIx_f, kIx_s, at_0, at_1, at_2, at_3, at_4, at_5, gSl_t, gSl_l,
  List.map_cons, List.map_nil, List.cons_append, List.nil_append, List.append_nil, List.length_cons, List.length_nil, List.replicate_succ, List.replicate_zero, Nat.reduceSub, Nat.reduceAdd, List.getElem?_cons_zero, List.getElem?_cons_succ, List.getElem?_nil, List.set_cons_zero, List.set_cons_succ, List.set_nil, Nat.zero_add, Nat.add_zero,
  List.all_cons, List.all_nil, notSl, Bool.and_true, Bool.true_and, Bool.or_true, Bool.true_or, Bool.and_false, Bool.false_and, Bool.or_false, Bool.false_or, if_true, if_false, Bool.false_eq_true, reduceIte, Bool.not_true, Bool.not_false, Bool.bne_true, Bool.bne_false, decide_true, decide_false, wipeE, backE, backS, nc_0, List.length_map, List.length_append, rg_len, Nat.reduceLeDiff, fd_ix, fi_ix, fi_len, fi_it, dcs, eq_self, Int.reduceEq, Int.reduceLT, Int.reduceLE, Int.reduceAdd, Int.reduceSub, Int.reduceMul, Int.reduceToNat, gIs_c, mkD_n, mkD_s, items, and_true, true_and, and_self, bne_self_eq_false, wt, gIn_t, gIsi_i, gIsi_t, gIsi_s, gIsi_n, gIsi_b, gIsi_l, isi2_c, gEq_n, gEq_l, ev_dk, kDk1_s, kDk2_s, kDk3_s, flatD, eqF_s, eqF_i, eqF_n, List.any_cons, List.any_nil, Rt.o, Option.bind_some, phi0_s, phi1_s, List.reverse_cons, List.reverse_nil, decide_eq_true_eq, *])
/-! ### the law's chunks, their refusals exactly -/
end Dv

set_option Elab.async false
set_option linter.all false
set_option maxRecDepth 100000
set_option maxHeartbeats 4000000
namespace Dv
open PySem PySem.Spec PyProof.Rows L2
local macro_rules | `(tactic| walk_at "ev") => `(tactic| simp only [kRet_s, ev_name, ev_c, nm_val, nm_own, nm_bor, der_d, der_nw, der_sl, sl_own, sl_bor, sl_val, ev_bin, kBin_s, kBin2_s, kBin3_s, kBin4_s, ev_b1, kOne_s, kOne2_s, kRetD_s, ev_un, kUn1_s, kUn12_s, gNeg_i, ev_test, kTst_s, ev_and, ev_or, ev_not, kAnd_t, kAnd_f, kOr_t, kOr_f, kNot_s, ev_notV, kBl_s, ev_andV, ev_orV, kAndV_t, kAndV_f, kOrV_t, kOrV_f, ev_if, kIfE_t, kIfE_f, ev_yes, ev_ch, kCh_s, kCh2_s, kCh3_s, kCh4_s, kCh5_t, kCh5_f, ev_nil, ev_cons, kC1_s, kC2_s, ev_rev, kRv_s, escs_nil, escs_cons, kX1_s, kX2_s, esc_d, esc_nw, esc_sl, escS_own, escS_val, ev_tup, kT1_s, kT2_s, ev_lst, kL1_s, kL2_s, ev_pno, ev_pzero, ev_pint, kPI_s, ev_sl, kS1_s, kS2_s, kS3_s, kS4_s, ev_lrg, kR1_s, kR2_s, ev_call, kF1_s, kF2_s, kF3_s, ders_nil, ders_cons, kD1_s, kD2_s, rt_d, rt_nw, ev_call1, kG1_s, kG2_s, kG3_s, kG4_s, ow_own, ow_bor, put_own, put_bor, ev_iseq, kI1_s, kI2_t, kI2_l, kI2_f, ev_irg1, kN1_u, kN1_i, ev_irg2, kN2_s, kN3_u, ev_lc, kV1_s, kV2_s, ev_seq, kSeq_n, kSeq_r, kSeq_b, kSeq_c, ev_skip, ev_break, ev_cont, ev_retN, ev_ret, kRt_s, ev_sif, kIf_t, kIf_f, ev_drop, kDr_s, ev_set, kSt_s, kSt2_s, ev_own, kOw_s, ev_unp, kUn_s, kUn2_s, kNx_s, bt_nm, bt_tp, sa_nil, sa_cons, ev_par, kPa_s, sp_nil, sp_own, sp_val, ev_app, kAp_s, kAp2_s, kAp3_s, kAp4_s, ev_sti, kSi_s, kSi2_s, kSi3_s, kSi4_s, kSi5_s, kSi6_s, ev_aug, kAg_s, kAg2_s, val_s, ev_for, kFo_s, loop_nil, loop_cons, kLp_s, kLp_n, kLp_c, kLp_b, kLp_r, ev_while, while_s, kWh_f, kWh_t, kWh_n, kWh_c, kWh_b, kWh_r, lc_nil, lc_cons, kLc1_s, kLc2_t, kLc2_f, kLc3_s, kLc4_s, run0_k, kE0_r, kE0_n, rtOf_d, rtOf_nw, rtOf_sl, rtS_own, run1_k, kE1_r, kE1_n, kE2_s, bor_s, gAdd_i, gAdd_l, gAdd_t, gSub_i, gMul_i, gMod_i, gDiv_i, gPow_i, gEq_i, gEq_s, gEq_b, gCmp_i, gIs_n, gInt_i, gInt_b, gMax_i, gMin_i, gAbs_i, gTup_t, gTup_l, gLen_t, gLen_l, gLen_f, gIx_t, gIx_l, gIx_f, kIx_s, at_0, at_1, at_2, at_3, at_4, at_5, gSl_t, gSl_l,
  List.map_cons, List.map_nil, List.cons_append, List.nil_append, List.append_nil, List.length_cons, List.length_nil, List.replicate_succ, List.replicate_zero, Nat.reduceSub, Nat.reduceAdd, List.getElem?_cons_zero, List.getElem?_cons_succ, List.getElem?_nil, List.set_cons_zero, List.set_cons_succ, List.set_nil, Nat.zero_add, Nat.add_zero,
  List.all_cons, List.all_nil, notSl, Bool.and_true, Bool.true_and, Bool.or_true, Bool.true_or, Bool.and_false, Bool.false_and, Bool.or_false, Bool.false_or, if_true, if_false, Bool.false_eq_true, reduceIte, Bool.not_true, Bool.not_false, Bool.bne_true, Bool.bne_false, decide_true, decide_false, wipeE, backE, backS, nc_0, List.length_map, List.length_append, rg_len, Nat.reduceLeDiff, fd_ix, fi_ix, fi_len, fi_it, dcs, eq_self, Int.reduceEq, Int.reduceLT, Int.reduceLE, Int.reduceAdd, Int.reduceSub, Int.reduceMul, Int.reduceToNat, gIs_c, mkD_n, mkD_s, items, and_true, true_and, and_self, bne_self_eq_false, wt, gIn_t, gIsi_i, gIsi_t, gIsi_s, gIsi_n, gIsi_b, gIsi_l, isi2_c, gEq_n, gEq_l, ev_dk, kDk1_s, kDk2_s, kDk3_s, flatD, eqF_s, eqF_i, eqF_n, List.any_cons, List.any_nil, Rt.o, Option.bind_some, phi0_s, phi1_s, List.reverse_cons, List.reverse_nil, decide_eq_true_eq, *])
/-! ### what is told, and where is not looked -/
def Us.told : Us → Bool | .keep => true | .check => true | _ => false
def bodyA (f : Frm) : List Int → List Int
  | [] => []
  | a :: ys => match f.width with
    | .one => ys.take a.toNat
    | _ => match ys with
      | [] => []
      | b :: zs => zs.take (bothL f a b).toNat
def cellA (f : Frm) (x : Int) (xs : List Int) : Std → List (Int × List Int)
  | .length u => if u.told then [(x, bodyA f xs)] else []
  | _ => []
def contA (f : Frm) : Std → List Int → List (Int × List Int)
  | _, [] => []
  | s, x :: xs => match step f s x with
    | none => []
    | some s' => cellA f x xs s' ++ contA f s' xs
end Dv

set_option Elab.async false
set_option linter.all false
set_option maxRecDepth 100000
set_option maxHeartbeats 4000000
namespace Dv
open PySem PySem.Spec PyProof.Rows L2
local macro_rules | `(tactic| walk_at "ev") => `(tactic| simp only [kRet_s, ev_name, ev_c, nm_val, nm_own, nm_bor, der_d, der_nw, der_sl, sl_own, sl_bor, sl_val, ev_bin, kBin_s, kBin2_s, kBin3_s, kBin4_s, ev_b1, kOne_s, kOne2_s, kRetD_s, ev_un, kUn1_s, kUn12_s, gNeg_i, ev_test, kTst_s, ev_and, ev_or, ev_not, kAnd_t, kAnd_f, kOr_t, kOr_f, kNot_s, ev_notV, kBl_s, ev_andV, ev_orV, kAndV_t, kAndV_f, kOrV_t, kOrV_f, ev_if, kIfE_t, kIfE_f, ev_yes, ev_ch, kCh_s, kCh2_s, kCh3_s, kCh4_s, kCh5_t, kCh5_f, ev_nil, ev_cons, kC1_s, kC2_s, ev_rev, kRv_s, escs_nil, escs_cons, kX1_s, kX2_s, esc_d, esc_nw, esc_sl, escS_own, escS_val, ev_tup, kT1_s, kT2_s, ev_lst, kL1_s, kL2_s, ev_pno, ev_pzero, ev_pint, kPI_s, ev_sl, kS1_s, kS2_s, kS3_s, kS4_s, ev_lrg, kR1_s, kR2_s, ev_call, kF1_s, kF2_s, kF3_s, ders_nil, ders_cons, kD1_s, kD2_s, rt_d, rt_nw, ev_call1, kG1_s, kG2_s, kG3_s, kG4_s, ow_own, ow_bor, put_own, put_bor, ev_iseq, kI1_s, kI2_t, kI2_l, kI2_f, ev_irg1, kN1_u, kN1_i, ev_irg2, kN2_s, kN3_u, ev_lc, kV1_s, kV2_s, ev_seq, kSeq_n, kSeq_r, kSeq_b, kSeq_c, ev_skip, ev_break, ev_cont, ev_retN, ev_ret, kRt_s, ev_sif, kIf_t, kIf_f, ev_drop, kDr_s, ev_set, kSt_s, kSt2_s, ev_own, kOw_s, ev_unp, kUn_s, kUn2_s, kNx_s, bt_nm, bt_tp, sa_nil, sa_cons, ev_par, kPa_s, sp_nil, sp_own, sp_val, ev_app, kAp_s, kAp2_s, kAp3_s, kAp4_s, ev_sti, kSi_s, kSi2_s, kSi3_s, kSi4_s, kSi5_s, kSi6_s, ev_aug, kAg_s, kAg2_s, val_s, ev_for, kFo_s, loop_nil, loop_cons, kLp_s, kLp_n, kLp_c, kLp_b, kLp_r, ev_while, while_s, kWh_f, kWh_t, kWh_n, kWh_c, kWh_b, kWh_r, lc_nil, lc_cons, kLc1_s, kLc2_t, kLc2_f, kLc3_s, kLc4_s, run0_k, kE0_r, kE0_n, rtOf_d, rtOf_nw, rtOf_sl, rtS_own, run1_k, kE1_r, kE1_n, kE2_s, bor_s, gAdd_i, gAdd_l, gAdd_t, gSub_i, gMul_i, gMod_i, gDiv_i, gPow_i, gEq_i, gEq_s, gEq_b, gCmp_i, gIs_n, gInt_i, gInt_b, gMax_i, gMin_i, gAbs_i, gTup_t, gTup_l, gLen_t, gLen_l, gLen_f, gIx_t, gIx_l, gIx_f, kIx_s, at_0, at_1, at_2, at_3, at_4, at_5, gSl_t, gSl_l,
  List.map_cons, List.map_nil, List.cons_append, List.nil_append, List.append_nil, List.length_cons, List.length_nil, List.replicate_succ, List.replicate_zero, Nat.reduceSub, Nat.reduceAdd, List.getElem?_cons_zero, List.getElem?_cons_succ, List.getElem?_nil, List.set_cons_zero, List.set_cons_succ, List.set_nil, Nat.zero_add, Nat.add_zero,
  List.all_cons, List.all_nil, notSl, Bool.and_true, Bool.true_and, Bool.or_true, Bool.true_or, Bool.and_false, Bool.false_and, Bool.or_false, Bool.false_or, if_true, if_false, Bool.false_eq_true, reduceIte, Bool.not_true, Bool.not_false, Bool.bne_true, Bool.bne_false, decide_true, decide_false, wipeE, backE, backS, nc_0, List.length_map, List.length_append, rg_len, Nat.reduceLeDiff, fd_ix, fi_ix, fi_len, fi_it, dcs, eq_self, Int.reduceEq, Int.reduceLT, Int.reduceLE, Int.reduceAdd, Int.reduceSub, Int.reduceMul, Int.reduceToNat, gIs_c, mkD_n, mkD_s, items, and_true, true_and, and_self, bne_self_eq_false, wt, gIn_t, gIsi_i, gIsi_t, gIsi_s, gIsi_n, gIsi_b, gIsi_l, isi2_c, gEq_n, gEq_l, flatD, eqF_s, eqF_i, eqF_n, List.any_cons, List.any_nil, Rt.o, Option.bind_some, phi0_s, phi1_s, List.reverse_cons, List.reverse_nil, decide_eq_true_eq, *])
/-! ### places that are not looked at -/
def Us.isK : Us → Bool | .skip => true | _ => false
def nI (i : Nat) : D := .int (i : Int)
def looksS (f : Frm) : Std → Bool
  | .head k => match f.head[k]? with | some none => false | _ => true
  | .body u _ _ => !u.isK
  | .room => false
  | _ => true
def blA (f : Frm) : Std → Nat → List Int → List Nat
  | _, _, [] => []
  | s, k, x :: xs => (if looksS f s then [] else [k]) ++ match step f s x with | none => [] | some s' => blA f s' (k + 1) xs
end Dv

set_option Elab.async false
set_option linter.all false
set_option maxRecDepth 100000
set_option maxHeartbeats 4000000
namespace Dv
open PySem PySem.Spec PyProof.Rows L2
local macro_rules | `(tactic| walk_at "ev") => `(tactic| simp only [kRet_s, ev_name, ev_c, nm_val, nm_own, nm_bor, der_d, der_nw, der_sl, sl_own, sl_bor, sl_val, ev_bin, kBin_s, kBin2_s, kBin3_s, kBin4_s, ev_b1, kOne_s, kOne2_s, kRetD_s, ev_un, kUn1_s, kUn12_s, gNeg_i, ev_test, kTst_s, ev_and, ev_or, ev_not, kAnd_t, kAnd_f, kOr_t, kOr_f, kNot_s, ev_notV, kBl_s, ev_andV, ev_orV, kAndV_t, kAndV_f, kOrV_t, kOrV_f, ev_if, kIfE_t, kIfE_f, ev_yes, ev_ch, kCh_s, kCh2_s, kCh3_s, kCh4_s, kCh5_t, kCh5_f, ev_nil, ev_cons, kC1_s, kC2_s, ev_rev, kRv_s, escs_nil, escs_cons, kX1_s, kX2_s, esc_d, esc_nw, esc_sl, escS_own, escS_val, ev_tup, kT1_s, kT2_s, ev_lst, kL1_s, kL2_s, ev_pno, ev_pzero, ev_pint, kPI_s, ev_sl, kS1_s, kS2_s, kS3_s, kS4_s, ev_lrg, kR1_s, kR2_s, ev_call, kF1_s, kF2_s, kF3_s, ders_nil, ders_cons, kD1_s, kD2_s, rt_d, rt_nw, ev_call1, kG1_s, kG2_s, kG3_s, kG4_s, ow_own, ow_bor, put_own, put_bor, ev_iseq, kI1_s, kI2_t, kI2_l, kI2_f, ev_irg1, kN1_u, kN1_i, ev_irg2, kN2_s, kN3_u, ev_lc, kV1_s, kV2_s, ev_seq, kSeq_n, kSeq_r, kSeq_b, kSeq_c, ev_skip, ev_break, ev_cont, ev_retN, ev_ret, kRt_s, ev_sif, kIf_t, kIf_f, ev_drop, kDr_s, ev_set, kSt_s, kSt2_s, ev_own, kOw_s, ev_unp, kUn_s, kUn2_s, kNx_s, bt_nm, bt_tp, sa_nil, sa_cons, ev_par, kPa_s, sp_nil, sp_own, sp_val, ev_app, kAp_s, kAp2_s, kAp3_s, kAp4_s, ev_sti, kSi_s, kSi2_s, kSi3_s, kSi4_s, kSi5_s, kSi6_s, ev_aug, kAg_s, kAg2_s, val_s, ev_for, kFo_s, loop_nil, loop_cons, kLp_s, kLp_n, kLp_c, kLp_b, kLp_r, ev_while, while_s, kWh_f, kWh_t, kWh_n, kWh_c, kWh_b, kWh_r, lc_nil, lc_cons, kLc1_s, kLc2_t, kLc2_f, kLc3_s, kLc4_s, run0_k, kE0_r, kE0_n, rtOf_d, rtOf_nw, rtOf_sl, rtS_own, run1_k, kE1_r, kE1_n, kE2_s, bor_s, gAdd_i, gAdd_l, gAdd_t, gSub_i, gMul_i, gMod_i, gDiv_i, gPow_i, gEq_i, gEq_s, gEq_b, gCmp_i, gIs_n, gInt_i, gInt_b, gMax_i, gMin_i, gAbs_i, gTup_t, gTup_l, gLen_t, gLen_l, gLen_f, gIx_t, gIx_l, gIx_f, kIx_s, at_0, at_1, at_2, at_3, at_4, at_5, gSl_t, gSl_l,
  List.map_cons, List.map_nil, List.cons_append, List.nil_append, List.append_nil, List.length_cons, List.length_nil, List.replicate_succ, List.replicate_zero, Nat.reduceSub, Nat.reduceAdd, List.getElem?_cons_zero, List.getElem?_cons_succ, List.getElem?_nil, List.set_cons_zero, List.set_cons_succ, List.set_nil, Nat.zero_add, Nat.add_zero,
  List.all_cons, List.all_nil, notSl, Bool.and_true, Bool.true_and, Bool.or_true, Bool.true_or, Bool.and_false, Bool.false_and, Bool.or_false, Bool.false_or, if_true, if_false, Bool.false_eq_true, reduceIte, Bool.not_true, Bool.not_false, Bool.bne_true, Bool.bne_false, decide_true, decide_false, wipeE, backE, backS, nc_0, List.length_map, List.length_append, rg_len, Nat.reduceLeDiff, fd_ix, fi_ix, fi_len, fi_it, dcs, eq_self, Int.reduceEq, Int.reduceLT, Int.reduceLE, Int.reduceAdd, Int.reduceSub, Int.reduceMul, Int.reduceToNat, gIs_c, mkD_n, mkD_s, items, and_true, true_and, and_self, bne_self_eq_false, wt, gIn_t, gIsi_i, gIsi_t, gIsi_s, gIsi_n, gIsi_b, gIsi_l, isi2_c, gEq_n, gEq_l, ev_dk, kDk1_s, kDk2_s, kDk3_s, flatD, eqF_s, eqF_i, eqF_n, List.any_cons, List.any_nil, Rt.o, Option.bind_some, phi0_s, phi1_s, List.reverse_cons, List.reverse_nil, decide_eq_true_eq, *])
/-! ### the law's own reading, exactly -/
def ctD (p : Int × List Int) : D := .tup [.int p.1, fileD p.2]
def RdA (f : Frm) (xs : List Int) (a b c : D) : Prop := RfX f (behM f 0) xs c ∧ (c = .non → a = .tup ((contA f (behM f 0) xs).map ctD) ∧ b = .lst ((blA f (behM f 0) 0 xs).map nI))
theorem RdA.bad {f : Frm} {xs : List Int} {a b : D} {ds : List D} (h : RfX f (behM f 0) xs (.tup ds)) : RdA f xs a b (.tup ds) := ⟨h, fun e => nomatch e⟩
end Dv

set_option Elab.async false
set_option linter.all false
set_option maxRecDepth 100000
set_option maxHeartbeats 4000000
namespace Dv
open PySem PySem.Spec PyProof.Rows L2
local macro_rules | `(tactic| walk_at "ev") => `(tactic| simp only [kRet_s, ev_name, ev_c, nm_val, nm_own, nm_bor, der_d, der_nw, der_sl, sl_own, sl_bor, sl_val, ev_bin, kBin_s, kBin2_s, kBin3_s, kBin4_s, ev_b1, kOne_s, kOne2_s, kRetD_s, ev_un, kUn1_s, kUn12_s, gNeg_i, ev_test, kTst_s, ev_and, ev_or, ev_not, kAnd_t, kAnd_f, kOr_t, kOr_f, kNot_s, ev_notV, kBl_s, ev_andV, ev_orV, kAndV_t, kAndV_f, kOrV_t, kOrV_f, ev_if, kIfE_t, kIfE_f, ev_yes, ev_ch, kCh_s, kCh2_s, kCh3_s, kCh4_s, kCh5_t, kCh5_f, ev_nil, ev_cons, kC1_s, kC2_s, ev_rev, kRv_s, escs_nil, escs_cons, kX1_s, kX2_s, esc_d, esc_nw, esc_sl, escS_own, escS_val, ev_tup, kT1_s, kT2_s, ev_lst, kL1_s, kL2_s, ev_pno, ev_pzero, ev_pint, kPI_s, ev_sl, kS1_s, kS2_s, kS3_s, kS4_s, ev_lrg, kR1_s, kR2_s, ev_call, kF1_s, kF2_s, kF3_s, ders_nil, ders_cons, kD1_s, kD2_s, rt_d, rt_nw, ev_call1, kG1_s, kG2_s, kG3_s, kG4_s, ow_own, ow_bor, put_own, put_bor, ev_iseq, kI1_s, kI2_t, kI2_l, kI2_f, ev_irg1, kN1_u, kN1_i, ev_irg2, kN2_s, kN3_u, ev_lc, kV1_s, kV2_s, ev_seq, kSeq_n, kSeq_r, kSeq_b, kSeq_c, ev_skip, ev_break, ev_cont, ev_retN, ev_ret, kRt_s, ev_sif, kIf_t, kIf_f, ev_drop, kDr_s, ev_set, kSt_s, kSt2_s, ev_own, kOw_s, ev_unp, kUn_s, kUn2_s, kNx_s, bt_nm, bt_tp, sa_nil, sa_cons, ev_par, kPa_s, sp_nil, sp_own, sp_val, ev_app, kAp_s, kAp2_s, kAp3_s, kAp4_s, ev_sti, kSi_s, kSi2_s, kSi3_s, kSi4_s, kSi5_s, kSi6_s, ev_aug, kAg_s, kAg2_s, val_s, ev_for, kFo_s, loop_nil, loop_cons, kLp_s, kLp_n, kLp_c, kLp_b, kLp_r, ev_while, while_s, kWh_f, kWh_t, kWh_n, kWh_c, kWh_b, kWh_r, lc_nil, lc_cons, kLc1_s, kLc2_t, kLc2_f, kLc3_s, kLc4_s, run0_k, kE0_r, kE0_n, rtOf_d, rtOf_nw, rtOf_sl, rtS_own, run1_k, kE1_r, kE1_n, kE2_s, bor_s, gAdd_i, gAdd_l, gAdd_t, gSub_i, gMul_i, gMod_i, gDiv_i, gPow_i, gEq_i, gEq_s, gEq_b, gCmp_i, gIs_n, gInt_i, gInt_b, gMax_i, gMin_i, gAbs_i, gTup_t, gTup_l, gLen_t, gLen_l, gLen_f, gIx_t, gIx_l, gIx_f, kIx_s, at_0, at_1, at_2, at_3, at_4, at_5, gSl_t, gSl_l,
  List.map_cons, List.map_nil, List.cons_append, List.nil_append, List.append_nil, List.length_cons, List.length_nil, List.replicate_succ, List.replicate_zero, Nat.reduceSub, Nat.reduceAdd, List.getElem?_cons_zero, List.getElem?_cons_succ, List.getElem?_nil, List.set_cons_zero, List.set_cons_succ, List.set_nil, Nat.zero_add, Nat.add_zero,
  List.all_cons, List.all_nil, notSl, Bool.and_true, Bool.true_and, Bool.or_true, Bool.true_or, Bool.and_false, Bool.false_and, Bool.or_false, Bool.false_or, if_true, if_false, Bool.false_eq_true, reduceIte, Bool.not_true, Bool.not_false, Bool.bne_true, Bool.bne_false, decide_true, decide_false, wipeE, backE, backS, nc_0, List.length_map, List.length_append, rg_len, Nat.reduceLeDiff, fd_ix, fi_ix, fi_len, fi_it, dcs, eq_self, Int.reduceEq, Int.reduceLT, Int.reduceLE, Int.reduceAdd, Int.reduceSub, Int.reduceMul, Int.reduceToNat, gIs_c, mkD_n, mkD_s, items, and_true, true_and, and_self, bne_self_eq_false, wt, gIn_t, gIsi_i, gIsi_t, gIsi_s, gIsi_n, gIsi_b, gIsi_l, isi2_c, gEq_n, gEq_l, ev_dk, kDk1_s, kDk2_s, kDk3_s, flatD, eqF_s, eqF_i, eqF_n, List.any_cons, List.any_nil, Rt.o, Option.bind_some, phi0_s, phi1_s, List.reverse_cons, List.reverse_nil, decide_eq_true_eq, *])

/-! ### the law's own reading, exactly: the loops -/
end Dv

set_option Elab.async false
set_option linter.all false
set_option maxRecDepth 100000
set_option maxHeartbeats 4000000
namespace Dv
open PySem PySem.Spec PyProof.Rows L2
local macro_rules | `(tactic| walk_at "ev") => `(tactic| simp only [kRet_s, ev_name, ev_c, nm_val, nm_own, nm_bor, der_d, der_nw, der_sl, sl_own, sl_bor, sl_val, ev_bin, kBin_s, kBin2_s, kBin3_s, kBin4_s, ev_b1, kOne_s, kOne2_s, kRetD_s, ev_un, kUn1_s, kUn12_s, gNeg_i, ev_test, kTst_s, ev_and, ev_or, ev_not, kAnd_t, kAnd_f, kOr_t, kOr_f, kNot_s, ev_notV, kBl_s, ev_andV, ev_orV, kAndV_t, kAndV_f, kOrV_t, kOrV_f, ev_if, kIfE_t, kIfE_f, ev_yes, ev_ch, kCh_s, kCh2_s, kCh3_s, kCh4_s, kCh5_t, kCh5_f, ev_nil, ev_cons, kC1_s, kC2_s, ev_rev, kRv_s, escs_nil, escs_cons, kX1_s, kX2_s, esc_d, esc_nw, esc_sl, escS_own, escS_val, ev_tup, kT1_s, kT2_s, ev_lst, kL1_s, kL2_s, ev_pno, ev_pzero, ev_pint, kPI_s, ev_sl, kS1_s, kS2_s, kS3_s, kS4_s, ev_lrg, kR1_s, kR2_s, ev_call, kF1_s, kF2_s, kF3_s, ders_nil, ders_cons, kD1_s, kD2_s, rt_d, rt_nw, ev_call1, kG1_s, kG2_s, kG3_s, kG4_s, ow_own, ow_bor, put_own, put_bor, ev_iseq, kI1_s, kI2_t, kI2_l, kI2_f, ev_irg1, kN1_u, kN1_i, ev_irg2, kN2_s, kN3_u, ev_lc, kV1_s, kV2_s, ev_seq, kSeq_n, kSeq_r, kSeq_b, kSeq_c, ev_skip, ev_break, ev_cont, ev_retN, ev_ret, kRt_s, ev_sif, kIf_t, kIf_f, ev_drop, kDr_s, ev_set, kSt_s, kSt2_s, ev_own, kOw_s, ev_unp, kUn_s, kUn2_s, kNx_s, bt_nm, bt_tp, sa_nil, sa_cons, ev_par, kPa_s, sp_nil, sp_own, sp_val, ev_app, kAp_s, kAp2_s, kAp3_s, kAp4_s, ev_sti, kSi_s, kSi2_s, kSi3_s, kSi4_s, kSi5_s, kSi6_s, ev_aug, kAg_s, kAg2_s, val_s, ev_for, kFo_s, loop_nil, loop_cons, kLp_s, kLp_n, kLp_c, kLp_b, kLp_r, ev_while, while_s, kWh_f, kWh_t, kWh_n, kWh_c, kWh_b, kWh_r, lc_nil, lc_cons, kLc1_s, kLc2_t, kLc2_f, kLc3_s, kLc4_s, run0_k, kE0_r, kE0_n, rtOf_d, rtOf_nw, rtOf_sl, rtS_own, run1_k, kE1_r, kE1_n, kE2_s, bor_s, gAdd_i, gAdd_l, gAdd_t, gSub_i, gMul_i, gMod_i, gDiv_i, gPow_i, gEq_i, gEq_s, gEq_b, gCmp_i, gIs_n, gInt_i, gInt_b, gMax_i, gMin_i, gAbs_i, gTup_t, gTup_l, gLen_t, gLen_l, gLen_f, gIx_t, gIx_l, gIx_f, kIx_s, at_0, at_1, at_2, at_3, at_4, at_5, gSl_t, gSl_l,
  List.map_cons, List.map_nil, List.cons_append, List.nil_append, List.append_nil, List.length_cons, List.length_nil, List.replicate_succ, List.replicate_zero, Nat.reduceSub, Nat.reduceAdd, List.getElem?_cons_zero, List.getElem?_cons_succ, List.getElem?_nil, List.set_cons_zero, List.set_cons_succ, List.set_nil, Nat.zero_add, Nat.add_zero,
  List.all_cons, List.all_nil, notSl, Bool.and_true, Bool.true_and, Bool.or_true, Bool.true_or, Bool.and_false, Bool.false_and, Bool.or_false, Bool.false_or, if_true, if_false, Bool.false_eq_true, reduceIte, Bool.not_true, Bool.not_false, Bool.bne_true, Bool.bne_false, decide_true, decide_false, wipeE, backE, backS, nc_0, List.length_map, List.length_append, rg_len, Nat.reduceLeDiff, fd_ix, fi_ix, fi_len, fi_it, dcs, eq_self, Int.reduceEq, Int.reduceLT, Int.reduceLE, Int.reduceAdd, Int.reduceSub, Int.reduceMul, Int.reduceToNat, gIs_c, mkD_n, mkD_s, items, and_true, true_and, and_self, bne_self_eq_false, wt, gIn_t, gIsi_i, gIsi_t, gIsi_s, gIsi_n, gIsi_b, gIsi_l, isi2_c, gEq_n, gEq_l, ev_dk, kDk1_s, kDk2_s, kDk3_s, flatD, eqF_s, eqF_i, eqF_n, List.any_cons, List.any_nil, Rt.o, Option.bind_some, phi0_s, phi1_s, List.reverse_cons, List.reverse_nil, decide_eq_true_eq, kDk1_s, ev_izp, kZ1_s, kZ2_s, *])
/-! ### what the package tells: places -/
/-! the parts -/
/-! the places at which a part is begun -/
end Dv

set_option Elab.async false
set_option linter.all false
set_option maxRecDepth 100000
set_option maxHeartbeats 4000000
namespace Dv
open PySem PySem.Spec PyProof.Rows L2
local macro_rules | `(tactic| walk_at "ev") => `(tactic| simp only [kRet_s, ev_name, ev_c, nm_val, nm_own, nm_bor, der_d, der_nw, der_sl, sl_own, sl_bor, sl_val, ev_bin, kBin_s, kBin2_s, kBin3_s, kBin4_s, ev_b1, kOne_s, kOne2_s, kRetD_s, ev_un, kUn1_s, kUn12_s, gNeg_i, ev_test, kTst_s, ev_and, ev_or, ev_not, kAnd_t, kAnd_f, kOr_t, kOr_f, kNot_s, ev_notV, kBl_s, ev_andV, ev_orV, kAndV_t, kAndV_f, kOrV_t, kOrV_f, ev_if, kIfE_t, kIfE_f, ev_yes, ev_ch, kCh_s, kCh2_s, kCh3_s, kCh4_s, kCh5_t, kCh5_f, ev_nil, ev_cons, kC1_s, kC2_s, ev_rev, kRv_s, escs_nil, escs_cons, kX1_s, kX2_s, esc_d, esc_nw, esc_sl, escS_own, escS_val, ev_tup, kT1_s, kT2_s, ev_lst, kL1_s, kL2_s, ev_pno, ev_pzero, ev_pint, kPI_s, ev_sl, kS1_s, kS2_s, kS3_s, kS4_s, ev_lrg, kR1_s, kR2_s, ev_call, kF1_s, kF2_s, kF3_s, ders_nil, ders_cons, kD1_s, kD2_s, rt_d, rt_nw, ev_call1, kG1_s, kG2_s, kG3_s, kG4_s, ow_own, ow_bor, put_own, put_bor, ev_iseq, kI1_s, kI2_t, kI2_l, kI2_f, ev_irg1, kN1_u, kN1_i, ev_irg2, kN2_s, kN3_u, ev_lc, kV1_s, kV2_s, ev_seq, kSeq_n, kSeq_r, kSeq_b, kSeq_c, ev_skip, ev_break, ev_cont, ev_retN, ev_ret, kRt_s, ev_sif, kIf_t, kIf_f, ev_drop, kDr_s, ev_set, kSt_s, kSt2_s, ev_own, kOw_s, ev_unp, kUn_s, kUn2_s, kNx_s, bt_nm, bt_tp, sa_nil, sa_cons, ev_par, kPa_s, sp_nil, sp_own, sp_val, ev_app, kAp_s, kAp2_s, kAp3_s, kAp4_s, ev_sti, kSi_s, kSi2_s, kSi3_s, kSi4_s, kSi5_s, kSi6_s, ev_aug, kAg_s, kAg2_s, val_s, ev_for, kFo_s, loop_nil, loop_cons, kLp_s, kLp_n, kLp_c, kLp_b, kLp_r, ev_while, while_s, kWh_f, kWh_t, kWh_n, kWh_c, kWh_b, kWh_r, lc_nil, lc_cons, kLc1_s, kLc2_t, kLc2_f, kLc3_s, kLc4_s, run0_k, kE0_r, kE0_n, rtOf_d, rtOf_nw, rtOf_sl, rtS_own, run1_k, kE1_r, kE1_n, kE2_s, bor_s, gAdd_i, gAdd_l, gAdd_t, gSub_i, gMul_i, gMod_i, gDiv_i, gPow_i, gEq_i, gEq_s, gEq_b, gCmp_i, gIs_n, gInt_i, gInt_b, gMax_i, gMin_i, gAbs_i, gTup_t, gTup_l, gLen_t, gLen_l, gLen_f, gIx_t, gIx_l, gIx_f, kIx_s, at_0, at_1, at_2, at_3, at_4, at_5, gSl_t, gSl_l,
  List.map_cons, List.map_nil, List.cons_append, List.nil_append, List.append_nil, List.length_cons, List.length_nil, List.replicate_succ, List.replicate_zero, Nat.reduceSub, Nat.reduceAdd, List.getElem?_cons_zero, List.getElem?_cons_succ, List.getElem?_nil, List.set_cons_zero, List.set_cons_succ, List.set_nil, Nat.zero_add, Nat.add_zero,
  List.all_cons, List.all_nil, notSl, Bool.and_true, Bool.true_and, Bool.or_true, Bool.true_or, Bool.and_false, Bool.false_and, Bool.or_false, Bool.false_or, if_true, if_false, Bool.false_eq_true, reduceIte, Bool.not_true, Bool.not_false, Bool.bne_true, Bool.bne_false, decide_true, decide_false, wipeE, backE, backS, nc_0, List.length_map, List.length_append, rg_len, Nat.reduceLeDiff, fd_ix, fi_ix, fi_len, fi_it, dcs, eq_self, Int.reduceEq, Int.reduceLT, Int.reduceLE, Int.reduceAdd, Int.reduceSub, Int.reduceMul, Int.reduceToNat, gIs_c, mkD_n, mkD_s, items, and_true, true_and, and_self, bne_self_eq_false, wt, gIn_t, gIsi_i, gIsi_t, gIsi_s, gIsi_n, gIsi_b, gIsi_l, isi2_c, gEq_n, gEq_l, ev_dk, kDk1_s, kDk2_s, kDk3_s, flatD, eqF_s, eqF_i, eqF_n, List.any_cons, List.any_nil, Rt.o, Option.bind_some, phi0_s, phi1_s, List.reverse_cons, List.reverse_nil, decide_eq_true_eq, kDk1_s, ev_izp, kZ1_s, kZ2_s, *])
/-! ### what the package tells -/
end Dv

set_option Elab.async false
set_option linter.all false
set_option maxRecDepth 100000
set_option maxHeartbeats 4000000
namespace Dv
open PySem PySem.Spec PyProof.Rows L2
local macro_rules | `(tactic| walk_at "ev") => `(tactic| simp only [kRet_s, ev_name, ev_c, nm_val, nm_own, nm_bor, der_d, der_nw, der_sl, sl_own, sl_bor, sl_val, ev_bin, kBin_s, kBin2_s, kBin3_s, kBin4_s, ev_b1, kOne_s, kOne2_s, kRetD_s, ev_un, kUn1_s, kUn12_s, gNeg_i, ev_test, kTst_s, ev_and, ev_or, ev_not, kAnd_t, kAnd_f, kOr_t, kOr_f, kNot_s, ev_notV, kBl_s, ev_andV, ev_orV, kAndV_t, kAndV_f, kOrV_t, kOrV_f, ev_if, kIfE_t, kIfE_f, ev_yes, ev_ch, kCh_s, kCh2_s, kCh3_s, kCh4_s, kCh5_t, kCh5_f, ev_nil, ev_cons, kC1_s, kC2_s, ev_rev, kRv_s, escs_nil, escs_cons, kX1_s, kX2_s, esc_d, esc_nw, esc_sl, escS_own, escS_val, ev_tup, kT1_s, kT2_s, ev_lst, kL1_s, kL2_s, ev_pno, ev_pzero, ev_pint, kPI_s, ev_sl, kS1_s, kS2_s, kS3_s, kS4_s, ev_lrg, kR1_s, kR2_s, ev_call, kF1_s, kF2_s, kF3_s, ders_nil, ders_cons, kD1_s, kD2_s, rt_d, rt_nw, ev_call1, kG1_s, kG2_s, kG3_s, kG4_s, ow_own, ow_bor, put_own, put_bor, ev_iseq, kI1_s, kI2_t, kI2_l, kI2_f, ev_irg1, kN1_u, kN1_i, ev_irg2, kN2_s, kN3_u, ev_lc, kV1_s, kV2_s, ev_seq, kSeq_n, kSeq_r, kSeq_b, kSeq_c, ev_skip, ev_break, ev_cont, ev_retN, ev_ret, kRt_s, ev_sif, kIf_t, kIf_f, ev_drop, kDr_s, ev_set, kSt_s, kSt2_s, ev_own, kOw_s, ev_unp, kUn_s, kUn2_s, kNx_s, bt_nm, bt_tp, sa_nil, sa_cons, ev_par, kPa_s, sp_nil, sp_own, sp_val, ev_app, kAp_s, kAp2_s, kAp3_s, kAp4_s, ev_sti, kSi_s, kSi2_s, kSi3_s, kSi4_s, kSi5_s, kSi6_s, ev_aug, kAg_s, kAg2_s, val_s, ev_for, kFo_s, loop_nil, loop_cons, kLp_s, kLp_n, kLp_c, kLp_b, kLp_r, ev_while, while_s, kWh_f, kWh_t, kWh_n, kWh_c, kWh_b, kWh_r, lc_nil, lc_cons, kLc1_s, kLc2_t, kLc2_f, kLc3_s, kLc4_s, run0_k, kE0_r, kE0_n, rtOf_d, rtOf_nw, rtOf_sl, rtS_own, run1_k, kE1_r, kE1_n, kE2_s, bor_s, gAdd_i, gAdd_l, gAdd_t, gSub_i, gMul_i, gMod_i, gDiv_i, gPow_i, gEq_i, gEq_s, gEq_b, gCmp_i, gIs_n, gInt_i, gInt_b, gMax_i, gMin_i, gAbs_i, gTup_t, gTup_l, gLen_t, gLen_l, gLen_f, gIx_t, gIx_l, gIx_f, kIx_s, at_0, at_1, at_2, at_3, at_4, at_5, gSl_t, gSl_l,
  List.map_cons, List.map_nil, List.cons_append, List.nil_append, List.append_nil, List.length_cons, List.length_nil, List.replicate_succ, List.replicate_zero, Nat.reduceSub, Nat.reduceAdd, List.getElem?_cons_zero, List.getElem?_cons_succ, List.getElem?_nil, List.set_cons_zero, List.set_cons_succ, List.set_nil, Nat.zero_add, Nat.add_zero,
  List.all_cons, List.all_nil, notSl, Bool.and_true, Bool.true_and, Bool.or_true, Bool.true_or, Bool.and_false, Bool.false_and, Bool.or_false, Bool.false_or, if_true, if_false, Bool.false_eq_true, reduceIte, Bool.not_true, Bool.not_false, Bool.bne_true, Bool.bne_false, decide_true, decide_false, wipeE, backE, backS, nc_0, List.length_map, List.length_append, rg_len, Nat.reduceLeDiff, fd_ix, fi_ix, fi_len, fi_it, dcs, eq_self, Int.reduceEq, Int.reduceLT, Int.reduceLE, Int.reduceAdd, Int.reduceSub, Int.reduceMul, Int.reduceToNat, gIs_c, mkD_n, mkD_s, items, and_true, true_and, and_self, bne_self_eq_false, wt, gIn_t, gIsi_i, gIsi_t, gIsi_s, gIsi_n, gIsi_b, gIsi_l, isi2_c, gEq_n, gEq_l, ev_dk, kDk1_s, kDk2_s, kDk3_s, flatD, eqF_s, eqF_i, eqF_n, List.any_cons, List.any_nil, Rt.o, Option.bind_some, phi0_s, phi1_s, List.reverse_cons, List.reverse_nil, decide_eq_true_eq, kDk1_s, ev_izp, kZ1_s, kZ2_s, *])
/-! ### read -/
end Dv

set_option Elab.async false
set_option linter.all false
set_option maxRecDepth 100000
set_option maxHeartbeats 4000000
namespace Dv
open PySem PySem.Spec PyProof.Rows L2
local macro_rules | `(tactic| walk_at "ev") => `(tactic| simp only [kRet_s, ev_name, ev_c, nm_val, nm_own, nm_bor, der_d, der_nw, der_sl, sl_own, sl_bor, sl_val, ev_bin, kBin_s, kBin2_s, kBin3_s, kBin4_s, ev_b1, kOne_s, kOne2_s, kRetD_s, ev_un, kUn1_s, kUn12_s, gNeg_i, ev_test, kTst_s, ev_and, ev_or, ev_not, kAnd_t, kAnd_f, kOr_t, kOr_f, kNot_s, ev_notV, kBl_s, ev_andV, ev_orV, kAndV_t, kAndV_f, kOrV_t, kOrV_f, ev_if, kIfE_t, kIfE_f, ev_yes, ev_ch, kCh_s, kCh2_s, kCh3_s, kCh4_s, kCh5_t, kCh5_f, ev_nil, ev_cons, kC1_s, kC2_s, ev_rev, kRv_s, escs_nil, escs_cons, kX1_s, kX2_s, esc_d, esc_nw, esc_sl, escS_own, escS_val, ev_tup, kT1_s, kT2_s, ev_lst, kL1_s, kL2_s, ev_pno, ev_pzero, ev_pint, kPI_s, ev_sl, kS1_s, kS2_s, kS3_s, kS4_s, ev_lrg, kR1_s, kR2_s, ev_call, kF1_s, kF2_s, kF3_s, ders_nil, ders_cons, kD1_s, kD2_s, rt_d, rt_nw, ev_call1, kG1_s, kG2_s, kG3_s, kG4_s, ow_own, ow_bor, put_own, put_bor, ev_iseq, kI1_s, kI2_t, kI2_l, kI2_f, ev_irg1, kN1_u, kN1_i, ev_irg2, kN2_s, kN3_u, ev_lc, kV1_s, kV2_s, ev_seq, kSeq_n, kSeq_r, kSeq_b, kSeq_c, ev_skip, ev_break, ev_cont, ev_retN, ev_ret, kRt_s, ev_sif, kIf_t, kIf_f, ev_drop, kDr_s, ev_set, kSt_s, kSt2_s, ev_own, kOw_s, ev_unp, kUn_s, kUn2_s, kNx_s, bt_nm, bt_tp, sa_nil, sa_cons, ev_par, kPa_s, sp_nil, sp_own, sp_val, ev_app, kAp_s, kAp2_s, kAp3_s, kAp4_s, ev_sti, kSi_s, kSi2_s, kSi3_s, kSi4_s, kSi5_s, kSi6_s, ev_aug, kAg_s, kAg2_s, val_s, ev_for, kFo_s, loop_nil, loop_cons, kLp_s, kLp_n, kLp_c, kLp_b, kLp_r, ev_while, while_s, kWh_f, kWh_t, kWh_n, kWh_c, kWh_b, kWh_r, lc_nil, lc_cons, kLc1_s, kLc2_t, kLc2_f, kLc3_s, kLc4_s, run0_k, kE0_r, kE0_n, rtOf_d, rtOf_nw, rtOf_sl, rtS_own, run1_k, kE1_r, kE1_n, kE2_s, bor_s, gAdd_i, gAdd_l, gAdd_t, gSub_i, gMul_i, gMod_i, gDiv_i, gPow_i, gEq_i, gEq_s, gEq_b, gCmp_i, gIs_n, gInt_i, gInt_b, gMax_i, gMin_i, gAbs_i, gTup_t, gTup_l, gLen_t, gLen_l, gLen_f, gIx_t, gIx_l, gIx_f, kIx_s, at_0, at_1, at_2, at_3, at_4, at_5, gSl_t, gSl_l,
  List.map_cons, List.map_nil, List.cons_append, List.nil_append, List.append_nil, List.length_cons, List.length_nil, List.replicate_succ, List.replicate_zero, Nat.reduceSub, Nat.reduceAdd, List.getElem?_cons_zero, List.getElem?_cons_succ, List.getElem?_nil, List.set_cons_zero, List.set_cons_succ, List.set_nil, Nat.zero_add, Nat.add_zero,
  List.all_cons, List.all_nil, notSl, Bool.and_true, Bool.true_and, Bool.or_true, Bool.true_or, Bool.and_false, Bool.false_and, Bool.or_false, Bool.false_or, if_true, if_false, Bool.false_eq_true, reduceIte, Bool.not_true, Bool.not_false, Bool.bne_true, Bool.bne_false, decide_true, decide_false, wipeE, backE, backS, nc_0, List.length_map, List.length_append, rg_len, Nat.reduceLeDiff, fd_ix, fi_ix, fi_len, fi_it, dcs, eq_self, Int.reduceEq, Int.reduceLT, Int.reduceLE, Int.reduceAdd, Int.reduceSub, Int.reduceMul, Int.reduceToNat, gIs_c, mkD_n, mkD_s, items, and_true, true_and, and_self, bne_self_eq_false, wt, gIn_t, gIsi_i, gIsi_t, gIsi_s, gIsi_n, gIsi_b, gIsi_l, isi2_c, gEq_n, gEq_l, ev_dk, kDk1_s, kDk2_s, kDk3_s, flatD, eqF_s, eqF_i, eqF_n, List.any_cons, List.any_nil, Rt.o, Option.bind_some, phi0_s, phi1_s, List.reverse_cons, List.reverse_nil, decide_eq_true_eq, kDk1_s, ev_izp, kZ1_s, kZ2_s, *])
/-! ### read, by its three lists -/
end Dv

set_option Elab.async false
set_option linter.all false
set_option maxRecDepth 100000
set_option maxHeartbeats 4000000
namespace Dv
open PySem PySem.Spec PyProof.Rows L2
local macro_rules | `(tactic| walk_at "ev") => `(tactic| simp only [kRet_s, ev_name, ev_c, nm_val, nm_own, nm_bor, der_d, der_nw, der_sl, sl_own, sl_bor, sl_val, ev_bin, kBin_s, kBin2_s, kBin3_s, kBin4_s, ev_b1, kOne_s, kOne2_s, kRetD_s, ev_un, kUn1_s, kUn12_s, gNeg_i, ev_test, kTst_s, ev_and, ev_or, ev_not, kAnd_t, kAnd_f, kOr_t, kOr_f, kNot_s, ev_notV, kBl_s, ev_andV, ev_orV, kAndV_t, kAndV_f, kOrV_t, kOrV_f, ev_if, kIfE_t, kIfE_f, ev_yes, ev_ch, kCh_s, kCh2_s, kCh3_s, kCh4_s, kCh5_t, kCh5_f, ev_nil, ev_cons, kC1_s, kC2_s, ev_rev, kRv_s, escs_nil, escs_cons, kX1_s, kX2_s, esc_d, esc_nw, esc_sl, escS_own, escS_val, ev_tup, kT1_s, kT2_s, ev_lst, kL1_s, kL2_s, ev_pno, ev_pzero, ev_pint, kPI_s, ev_sl, kS1_s, kS2_s, kS3_s, kS4_s, ev_lrg, kR1_s, kR2_s, ev_call, kF1_s, kF2_s, kF3_s, ders_nil, ders_cons, kD1_s, kD2_s, rt_d, rt_nw, ev_call1, kG1_s, kG2_s, kG3_s, kG4_s, ow_own, ow_bor, put_own, put_bor, ev_iseq, kI1_s, kI2_t, kI2_l, kI2_f, ev_irg1, kN1_u, kN1_i, ev_irg2, kN2_s, kN3_u, ev_lc, kV1_s, kV2_s, ev_seq, kSeq_n, kSeq_r, kSeq_b, kSeq_c, ev_skip, ev_break, ev_cont, ev_retN, ev_ret, kRt_s, ev_sif, kIf_t, kIf_f, ev_drop, kDr_s, ev_set, kSt_s, kSt2_s, ev_own, kOw_s, ev_unp, kUn_s, kUn2_s, kNx_s, bt_nm, bt_tp, sa_nil, sa_cons, ev_par, kPa_s, sp_nil, sp_own, sp_val, ev_app, kAp_s, kAp2_s, kAp3_s, kAp4_s, ev_sti, kSi_s, kSi2_s, kSi3_s, kSi4_s, kSi5_s, kSi6_s, ev_aug, kAg_s, kAg2_s, val_s, ev_for, kFo_s, loop_nil, loop_cons, kLp_s, kLp_n, kLp_c, kLp_b, kLp_r, ev_while, while_s, kWh_f, kWh_t, kWh_n, kWh_c, kWh_b, kWh_r, lc_nil, lc_cons, kLc1_s, kLc2_t, kLc2_f, kLc3_s, kLc4_s, run0_k, kE0_r, kE0_n, rtOf_d, rtOf_nw, rtOf_sl, rtS_own, run1_k, kE1_r, kE1_n, kE2_s, bor_s, gAdd_i, gAdd_l, gAdd_t, gSub_i, gMul_i, gMod_i, gDiv_i, gPow_i, gEq_i, gEq_s, gEq_b, gCmp_i, gIs_n, gInt_i, gInt_b, gMax_i, gMin_i, gAbs_i, gTup_t, gTup_l, gLen_t, gLen_l, gLen_f, gIx_t, gIx_l, gIx_f, kIx_s, at_0, at_1, at_2, at_3, at_4, at_5, gSl_t, gSl_l,
  List.map_cons, List.map_nil, List.cons_append, List.nil_append, List.append_nil, List.length_cons, List.length_nil, List.replicate_succ, List.replicate_zero, Nat.reduceSub, Nat.reduceAdd, List.getElem?_cons_zero, List.getElem?_cons_succ, List.getElem?_nil, List.set_cons_zero, List.set_cons_succ, List.set_nil, Nat.zero_add, Nat.add_zero,
  List.all_cons, List.all_nil, notSl, Bool.and_true, Bool.true_and, Bool.or_true, Bool.true_or, Bool.and_false, Bool.false_and, Bool.or_false, Bool.false_or, if_true, if_false, Bool.false_eq_true, reduceIte, Bool.not_true, Bool.not_false, Bool.bne_true, Bool.bne_false, decide_true, decide_false, wipeE, backE, backS, nc_0, List.length_map, List.length_append, rg_len, Nat.reduceLeDiff, fd_ix, fi_ix, fi_len, fi_it, dcs, eq_self, Int.reduceEq, Int.reduceLT, Int.reduceLE, Int.reduceAdd, Int.reduceSub, Int.reduceMul, Int.reduceToNat, gIs_c, mkD_n, mkD_s, items, and_true, true_and, and_self, bne_self_eq_false, wt, gIn_t, gIsi_i, gIsi_t, gIsi_s, gIsi_n, gIsi_b, gIsi_l, isi2_c, gEq_n, gEq_l, ev_dk, kDk1_s, kDk2_s, kDk3_s, flatD, eqF_s, eqF_i, eqF_n, List.any_cons, List.any_nil, Rt.o, Option.bind_some, phi0_s, phi1_s, List.reverse_cons, List.reverse_nil, decide_eq_true_eq, *])

/-! ### the law's judge -/
end Dv

set_option Elab.async false
set_option linter.all false
set_option maxRecDepth 100000
set_option maxHeartbeats 4000000
namespace Dv
open PySem PySem.Spec PyProof.Rows L2
local macro_rules | `(tactic| walk_at "ev") => `(tactic| simp only [kRet_s, ev_name, ev_c, nm_val, nm_own, nm_bor, der_d, der_nw, der_sl, sl_own, sl_bor, sl_val, ev_bin, kBin_s, kBin2_s, kBin3_s, kBin4_s, ev_b1, kOne_s, kOne2_s, kRetD_s, ev_un, kUn1_s, kUn12_s, gNeg_i, ev_test, kTst_s, ev_and, ev_or, ev_not, kAnd_t, kAnd_f, kOr_t, kOr_f, kNot_s, ev_notV, kBl_s, ev_andV, ev_orV, kAndV_t, kAndV_f, kOrV_t, kOrV_f, ev_if, kIfE_t, kIfE_f, ev_yes, ev_ch, kCh_s, kCh2_s, kCh3_s, kCh4_s, kCh5_t, kCh5_f, ev_nil, ev_cons, kC1_s, kC2_s, ev_rev, kRv_s, escs_nil, escs_cons, kX1_s, kX2_s, esc_d, esc_nw, esc_sl, escS_own, escS_val, ev_tup, kT1_s, kT2_s, ev_lst, kL1_s, kL2_s, ev_pno, ev_pzero, ev_pint, kPI_s, ev_sl, kS1_s, kS2_s, kS3_s, kS4_s, ev_lrg, kR1_s, kR2_s, ev_call, kF1_s, kF2_s, kF3_s, ders_nil, ders_cons, kD1_s, kD2_s, rt_d, rt_nw, ev_call1, kG1_s, kG2_s, kG3_s, kG4_s, ow_own, ow_bor, put_own, put_bor, ev_iseq, kI1_s, kI2_t, kI2_l, kI2_f, ev_irg1, kN1_u, kN1_i, ev_irg2, kN2_s, kN3_u, ev_lc, kV1_s, kV2_s, ev_seq, kSeq_n, kSeq_r, kSeq_b, kSeq_c, ev_skip, ev_break, ev_cont, ev_retN, ev_ret, kRt_s, ev_sif, kIf_t, kIf_f, ev_drop, kDr_s, ev_set, kSt_s, kSt2_s, ev_own, kOw_s, ev_unp, kUn_s, kUn2_s, kNx_s, bt_nm, bt_tp, sa_nil, sa_cons, ev_par, kPa_s, sp_nil, sp_own, sp_val, ev_app, kAp_s, kAp2_s, kAp3_s, kAp4_s, ev_sti, kSi_s, kSi2_s, kSi3_s, kSi4_s, kSi5_s, kSi6_s, ev_aug, kAg_s, kAg2_s, val_s, ev_for, kFo_s, loop_nil, loop_cons, kLp_s, kLp_n, kLp_c, kLp_b, kLp_r, ev_while, while_s, kWh_f, kWh_t, kWh_n, kWh_c, kWh_b, kWh_r, lc_nil, lc_cons, kLc1_s, kLc2_t, kLc2_f, kLc3_s, kLc4_s, run0_k, kE0_r, kE0_n, rtOf_d, rtOf_nw, rtOf_sl, rtS_own, run1_k, kE1_r, kE1_n, kE2_s, bor_s, gAdd_i, gAdd_l, gAdd_t, gSub_i, gMul_i, gMod_i, gDiv_i, gPow_i, gEq_i, gEq_s, gEq_b, gCmp_i, gIs_n, gInt_i, gInt_b, gMax_i, gMin_i, gAbs_i, gTup_t, gTup_l, gLen_t, gLen_l, gLen_f, gIx_t, gIx_l, gIx_f, kIx_s, at_0, at_1, at_2, at_3, at_4, at_5, gSl_t, gSl_l,
  List.map_cons, List.map_nil, List.cons_append, List.nil_append, List.append_nil, List.length_cons, List.length_nil, List.replicate_succ, List.replicate_zero, Nat.reduceSub, Nat.reduceAdd, List.getElem?_cons_zero, List.getElem?_cons_succ, List.getElem?_nil, List.set_cons_zero, List.set_cons_succ, List.set_nil, Nat.zero_add, Nat.add_zero,
  List.all_cons, List.all_nil, notSl, Bool.and_true, Bool.true_and, Bool.or_true, Bool.true_or, Bool.and_false, Bool.false_and, Bool.or_false, Bool.false_or, if_true, if_false, Bool.false_eq_true, reduceIte, Bool.not_true, Bool.not_false, Bool.bne_true, Bool.bne_false, decide_true, decide_false, wipeE, backE, backS, nc_0, List.length_map, List.length_append, rg_len, Nat.reduceLeDiff, fd_ix, fi_ix, fi_len, fi_it, dcs, eq_self, Int.reduceEq, Int.reduceLT, Int.reduceLE, Int.reduceAdd, Int.reduceSub, Int.reduceMul, Int.reduceToNat, gIs_c, mkD_n, mkD_s, items, and_true, true_and, and_self, bne_self_eq_false, wt, gIn_t, gIsi_i, gIsi_t, gIsi_s, gIsi_n, gIsi_b, gIsi_l, isi2_c, gEq_n, gEq_l, flatD, eqF_s, eqF_i, eqF_n, List.any_cons, List.any_nil, Rt.o, Option.bind_some, phi0_s, phi1_s, List.reverse_cons, List.reverse_nil, decide_eq_true_eq, *])
/-! ### where the package looks -/
end Dv

set_option Elab.async false
set_option linter.all false
set_option maxRecDepth 100000
set_option maxHeartbeats 4000000
namespace Dv
open PySem PySem.Spec PyProof.Rows L2
local macro_rules | `(tactic| walk_at "ev") => `(tactic| simp only [kRet_s, ev_name, ev_c, nm_val, nm_own, nm_bor, der_d, der_nw, der_sl, sl_own, sl_bor, sl_val, ev_bin, kBin_s, kBin2_s, kBin3_s, kBin4_s, ev_b1, kOne_s, kOne2_s, kRetD_s, ev_un, kUn1_s, kUn12_s, gNeg_i, ev_test, kTst_s, ev_and, ev_or, ev_not, kAnd_t, kAnd_f, kOr_t, kOr_f, kNot_s, ev_notV, kBl_s, ev_andV, ev_orV, kAndV_t, kAndV_f, kOrV_t, kOrV_f, ev_if, kIfE_t, kIfE_f, ev_yes, ev_ch, kCh_s, kCh2_s, kCh3_s, kCh4_s, kCh5_t, kCh5_f, ev_nil, ev_cons, kC1_s, kC2_s, ev_rev, kRv_s, escs_nil, escs_cons, kX1_s, kX2_s, esc_d, esc_nw, esc_sl, escS_own, escS_val, ev_tup, kT1_s, kT2_s, ev_lst, kL1_s, kL2_s, ev_pno, ev_pzero, ev_pint, kPI_s, ev_sl, kS1_s, kS2_s, kS3_s, kS4_s, ev_lrg, kR1_s, kR2_s, ev_call, kF1_s, kF2_s, kF3_s, ders_nil, ders_cons, kD1_s, kD2_s, rt_d, rt_nw, ev_call1, kG1_s, kG2_s, kG3_s, kG4_s, ow_own, ow_bor, put_own, put_bor, ev_iseq, kI1_s, kI2_t, kI2_l, kI2_f, ev_irg1, kN1_u, kN1_i, ev_irg2, kN2_s, kN3_u, ev_lc, kV1_s, kV2_s, ev_seq, kSeq_n, kSeq_r, kSeq_b, kSeq_c, ev_skip, ev_break, ev_cont, ev_retN, ev_ret, kRt_s, ev_sif, kIf_t, kIf_f, ev_drop, kDr_s, ev_set, kSt_s, kSt2_s, ev_own, kOw_s, ev_unp, kUn_s, kUn2_s, kNx_s, bt_nm, bt_tp, sa_nil, sa_cons, ev_par, kPa_s, sp_nil, sp_own, sp_val, ev_app, kAp_s, kAp2_s, kAp3_s, kAp4_s, ev_sti, kSi_s, kSi2_s, kSi3_s, kSi4_s, kSi5_s, kSi6_s, ev_aug, kAg_s, kAg2_s, val_s, ev_for, kFo_s, loop_nil, loop_cons, kLp_s, kLp_n, kLp_c, kLp_b, kLp_r, ev_while, while_s, kWh_f, kWh_t, kWh_n, kWh_c, kWh_b, kWh_r, lc_nil, lc_cons, kLc1_s, kLc2_t, kLc2_f, kLc3_s, kLc4_s, run0_k, kE0_r, kE0_n, rtOf_d, rtOf_nw, rtOf_sl, rtS_own, run1_k, kE1_r, kE1_n, kE2_s, bor_s, gAdd_i, gAdd_l, gAdd_t, gSub_i, gMul_i, gMod_i, gDiv_i, gPow_i, gEq_i, gEq_s, gEq_b, gCmp_i, gIs_n, gInt_i, gInt_b, gMax_i, gMin_i, gAbs_i, gTup_t, gTup_l, gLen_t, gLen_l, gLen_f, gIx_t, gIx_l, gIx_f, kIx_s, at_0, at_1, at_2, at_3, at_4, at_5, gSl_t, gSl_l,
  List.map_cons, List.map_nil, List.cons_append, List.nil_append, List.append_nil, List.length_cons, List.length_nil, List.replicate_succ, List.replicate_zero, Nat.reduceSub, Nat.reduceAdd, List.getElem?_cons_zero, List.getElem?_cons_succ, List.getElem?_nil, List.set_cons_zero, List.set_cons_succ, List.set_nil, Nat.zero_add, Nat.add_zero,
  List.all_cons, List.all_nil, notSl, Bool.and_true, Bool.true_and, Bool.or_true, Bool.true_or, Bool.and_false, Bool.false_and, Bool.or_false, Bool.false_or, if_true, if_false, Bool.false_eq_true, reduceIte, Bool.not_true, Bool.not_false, Bool.bne_true, Bool.bne_false, decide_true, decide_false, wipeE, backE, backS, nc_0, List.length_map, List.length_append, rg_len, Nat.reduceLeDiff, fd_ix, fi_ix, fi_len, fi_it, dcs, eq_self, Int.reduceEq, Int.reduceLT, Int.reduceLE, Int.reduceAdd, Int.reduceSub, Int.reduceMul, Int.reduceToNat, gIs_c, mkD_n, mkD_s, items, and_true, true_and, and_self, bne_self_eq_false, wt, gIn_t, gIsi_i, gIsi_t, gIsi_s, gIsi_n, gIsi_b, gIsi_l, isi2_c, gEq_n, gEq_l, flatD, eqF_s, eqF_i, eqF_n, List.any_cons, List.any_nil, Rt.o, Option.bind_some, phi0_s, phi1_s, List.reverse_cons, List.reverse_nil, decide_eq_true_eq, *])
/-! ### files that differ where is not looked -/
end Dv

set_option Elab.async false
set_option linter.all false
set_option maxRecDepth 100000
set_option maxHeartbeats 4000000
namespace Dv
open PySem PySem.Spec PyProof.Rows L2
local macro_rules | `(tactic| walk_at "ev") => `(tactic| simp only [kRet_s, ev_name, ev_c, nm_val, nm_own, nm_bor, der_d, der_nw, der_sl, sl_own, sl_bor, sl_val, ev_bin, kBin_s, kBin2_s, kBin3_s, kBin4_s, ev_b1, kOne_s, kOne2_s, kRetD_s, ev_un, kUn1_s, kUn12_s, gNeg_i, ev_test, kTst_s, ev_and, ev_or, ev_not, kAnd_t, kAnd_f, kOr_t, kOr_f, kNot_s, ev_notV, kBl_s, ev_andV, ev_orV, kAndV_t, kAndV_f, kOrV_t, kOrV_f, ev_if, kIfE_t, kIfE_f, ev_yes, ev_ch, kCh_s, kCh2_s, kCh3_s, kCh4_s, kCh5_t, kCh5_f, ev_nil, ev_cons, kC1_s, kC2_s, ev_rev, kRv_s, escs_nil, escs_cons, kX1_s, kX2_s, esc_d, esc_nw, esc_sl, escS_own, escS_val, ev_tup, kT1_s, kT2_s, ev_lst, kL1_s, kL2_s, ev_pno, ev_pzero, ev_pint, kPI_s, ev_sl, kS1_s, kS2_s, kS3_s, kS4_s, ev_lrg, kR1_s, kR2_s, ev_call, kF1_s, kF2_s, kF3_s, ders_nil, ders_cons, kD1_s, kD2_s, rt_d, rt_nw, ev_call1, kG1_s, kG2_s, kG3_s, kG4_s, ow_own, ow_bor, put_own, put_bor, ev_iseq, kI1_s, kI2_t, kI2_l, kI2_f, ev_irg1, kN1_u, kN1_i, ev_irg2, kN2_s, kN3_u, ev_lc, kV1_s, kV2_s, ev_seq, kSeq_n, kSeq_r, kSeq_b, kSeq_c, ev_skip, ev_break, ev_cont, ev_retN, ev_ret, kRt_s, ev_sif, kIf_t, kIf_f, ev_drop, kDr_s, ev_set, kSt_s, kSt2_s, ev_own, kOw_s, ev_unp, kUn_s, kUn2_s, kNx_s, bt_nm, bt_tp, sa_nil, sa_cons, ev_par, kPa_s, sp_nil, sp_own, sp_val, ev_app, kAp_s, kAp2_s, kAp3_s, kAp4_s, ev_sti, kSi_s, kSi2_s, kSi3_s, kSi4_s, kSi5_s, kSi6_s, ev_aug, kAg_s, kAg2_s, val_s, ev_for, kFo_s, loop_nil, loop_cons, kLp_s, kLp_n, kLp_c, kLp_b, kLp_r, ev_while, while_s, kWh_f, kWh_t, kWh_n, kWh_c, kWh_b, kWh_r, lc_nil, lc_cons, kLc1_s, kLc2_t, kLc2_f, kLc3_s, kLc4_s, run0_k, kE0_r, kE0_n, rtOf_d, rtOf_nw, rtOf_sl, rtS_own, run1_k, kE1_r, kE1_n, kE2_s, bor_s, gAdd_i, gAdd_l, gAdd_t, gSub_i, gMul_i, gMod_i, gDiv_i, gPow_i, gEq_i, gEq_s, gEq_b, gCmp_i, gIs_n, gInt_i, gInt_b, gMax_i, gMin_i, gAbs_i, gTup_t, gTup_l, gLen_t, gLen_l, gLen_f, gIx_t, gIx_l, gIx_f, kIx_s, at_0, at_1, at_2, at_3, at_4, at_5, gSl_t, gSl_l,
  List.map_cons, List.map_nil, List.cons_append, List.nil_append, List.append_nil, List.length_cons, List.length_nil, List.replicate_succ, List.replicate_zero, Nat.reduceSub, Nat.reduceAdd, List.getElem?_cons_zero, List.getElem?_cons_succ, List.getElem?_nil, List.set_cons_zero, List.set_cons_succ, List.set_nil, Nat.zero_add, Nat.add_zero,
  List.all_cons, List.all_nil, notSl, Bool.and_true, Bool.true_and, Bool.or_true, Bool.true_or, Bool.and_false, Bool.false_and, Bool.or_false, Bool.false_or, if_true, if_false, Bool.false_eq_true, reduceIte, Bool.not_true, Bool.not_false, Bool.bne_true, Bool.bne_false, decide_true, decide_false, wipeE, backE, backS, nc_0, List.length_map, List.length_append, rg_len, Nat.reduceLeDiff, fd_ix, fi_ix, fi_len, fi_it, dcs, eq_self, Int.reduceEq, Int.reduceLT, Int.reduceLE, Int.reduceAdd, Int.reduceSub, Int.reduceMul, Int.reduceToNat, gIs_c, mkD_n, mkD_s, items, and_true, true_and, and_self, bne_self_eq_false, wt, gIn_t, gIsi_i, gIsi_t, gIsi_s, gIsi_n, gIsi_b, gIsi_l, isi2_c, gEq_n, gEq_l, flatD, eqF_s, eqF_i, eqF_n, List.any_cons, List.any_nil, Rt.o, Option.bind_some, phi0_s, phi1_s, List.reverse_cons, List.reverse_nil, decide_eq_true_eq, *])
/-! ### drawn formats, drawn files, files turned where is not looked -/
end Dv

set_option Elab.async false
set_option linter.all false
set_option maxRecDepth 100000
set_option maxHeartbeats 4000000
namespace Dv
open PySem PySem.Spec PyProof.Rows L2
local macro_rules | `(tactic| walk_at "ev") => `(tactic| simp only [kRet_s, ev_name, ev_c, nm_val, nm_own, nm_bor, der_d, der_nw, der_sl, sl_own, sl_bor, sl_val, ev_bin, kBin_s, kBin2_s, kBin3_s, kBin4_s, ev_b1, kOne_s, kOne2_s, kRetD_s, ev_un, kUn1_s, kUn12_s, gNeg_i, ev_test, kTst_s, ev_and, ev_or, ev_not, kAnd_t, kAnd_f, kOr_t, kOr_f, kNot_s, ev_notV, kBl_s, ev_andV, ev_orV, kAndV_t, kAndV_f, kOrV_t, kOrV_f, ev_if, kIfE_t, kIfE_f, ev_yes, ev_ch, kCh_s, kCh2_s, kCh3_s, kCh4_s, kCh5_t, kCh5_f, ev_nil, ev_cons, kC1_s, kC2_s, ev_rev, kRv_s, escs_nil, escs_cons, kX1_s, kX2_s, esc_d, esc_nw, esc_sl, escS_own, escS_val, ev_tup, kT1_s, kT2_s, ev_lst, kL1_s, kL2_s, ev_pno, ev_pzero, ev_pint, kPI_s, ev_sl, kS1_s, kS2_s, kS3_s, kS4_s, ev_lrg, kR1_s, kR2_s, ev_call, kF1_s, kF2_s, kF3_s, ders_nil, ders_cons, kD1_s, kD2_s, rt_d, rt_nw, ev_call1, kG1_s, kG2_s, kG3_s, kG4_s, ow_own, ow_bor, put_own, put_bor, ev_iseq, kI1_s, kI2_t, kI2_l, kI2_f, ev_irg1, kN1_u, kN1_i, ev_irg2, kN2_s, kN3_u, ev_lc, kV1_s, kV2_s, ev_seq, kSeq_n, kSeq_r, kSeq_b, kSeq_c, ev_skip, ev_break, ev_cont, ev_retN, ev_ret, kRt_s, ev_sif, kIf_t, kIf_f, ev_drop, kDr_s, ev_set, kSt_s, kSt2_s, ev_own, kOw_s, ev_unp, kUn_s, kUn2_s, kNx_s, bt_nm, bt_tp, sa_nil, sa_cons, ev_par, kPa_s, sp_nil, sp_own, sp_val, ev_app, kAp_s, kAp2_s, kAp3_s, kAp4_s, ev_sti, kSi_s, kSi2_s, kSi3_s, kSi4_s, kSi5_s, kSi6_s, ev_aug, kAg_s, kAg2_s, val_s, ev_for, kFo_s, loop_nil, loop_cons, kLp_s, kLp_n, kLp_c, kLp_b, kLp_r, ev_while, while_s, kWh_f, kWh_t, kWh_n, kWh_c, kWh_b, kWh_r, lc_nil, lc_cons, kLc1_s, kLc2_t, kLc2_f, kLc3_s, kLc4_s, run0_k, kE0_r, kE0_n, rtOf_d, rtOf_nw, rtOf_sl, rtS_own, run1_k, kE1_r, kE1_n, kE2_s, bor_s, gAdd_i, gAdd_l, gAdd_t, gSub_i, gMul_i, gMod_i, gDiv_i, gPow_i, gEq_i, gEq_s, gEq_b, gCmp_i, gIs_n, gInt_i, gInt_b, gMax_i, gMin_i, gAbs_i, gTup_t, gTup_l, gLen_t, gLen_l, gLen_f, gIx_t, gIx_l, gIx_f, kIx_s, at_0, at_1, at_2, at_3, at_4, at_5, gSl_t, gSl_l,
  List.map_cons, List.map_nil, List.cons_append, List.nil_append, List.append_nil, List.length_cons, List.length_nil, List.replicate_succ, List.replicate_zero, Nat.reduceSub, Nat.reduceAdd, List.getElem?_cons_zero, List.getElem?_cons_succ, List.getElem?_nil, List.set_cons_zero, List.set_cons_succ, List.set_nil, Nat.zero_add, Nat.add_zero,
  List.all_cons, List.all_nil, notSl, Bool.and_true, Bool.true_and, Bool.or_true, Bool.true_or, Bool.and_false, Bool.false_and, Bool.or_false, Bool.false_or, if_true, if_false, Bool.false_eq_true, reduceIte, Bool.not_true, Bool.not_false, Bool.bne_true, Bool.bne_false, decide_true, decide_false, wipeE, backE, backS, nc_0, List.length_map, List.length_append, rg_len, Nat.reduceLeDiff, fd_ix, fi_ix, fi_len, fi_it, dcs, eq_self, Int.reduceEq, Int.reduceLT, Int.reduceLE, Int.reduceAdd, Int.reduceSub, Int.reduceMul, Int.reduceToNat, gIs_c, mkD_n, mkD_s, items, and_true, true_and, and_self, bne_self_eq_false, wt, gIn_t, gIsi_i, gIsi_t, gIsi_s, gIsi_n, gIsi_b, gIsi_l, isi2_c, gEq_n, gEq_l, flatD, eqF_s, eqF_i, eqF_n, List.any_cons, List.any_nil, Rt.o, Option.bind_some, phi0_s, phi1_s, List.reverse_cons, List.reverse_nil, decide_eq_true_eq, *])
/-! ### the law -/
end Dv

set_option Elab.async false
set_option linter.all false
set_option maxRecDepth 100000
set_option maxHeartbeats 4000000
namespace Dv
open PySem PySem.Spec PyProof.Rows L2
local macro_rules | `(tactic| walk_at "ev") => `(tactic| simp only [kRet_s, ev_name, ev_c, nm_val, nm_own, nm_bor, der_d, der_nw, der_sl, sl_own, sl_bor, sl_val, ev_bin, kBin_s, kBin2_s, kBin3_s, kBin4_s, ev_b1, kOne_s, kOne2_s, kRetD_s, ev_un, kUn1_s, kUn12_s, gNeg_i, ev_test, kTst_s, ev_and, ev_or, ev_not, kAnd_t, kAnd_f, kOr_t, kOr_f, kNot_s, ev_notV, kBl_s, ev_andV, ev_orV, kAndV_t, kAndV_f, kOrV_t, kOrV_f, ev_if, kIfE_t, kIfE_f, ev_yes, ev_ch, kCh_s, kCh2_s, kCh3_s, kCh4_s, kCh5_t, kCh5_f, ev_nil, ev_cons, kC1_s, kC2_s, ev_rev, kRv_s, escs_nil, escs_cons, kX1_s, kX2_s, esc_d, esc_nw, esc_sl, escS_own, escS_val, ev_tup, kT1_s, kT2_s, ev_lst, kL1_s, kL2_s, ev_pno, ev_pzero, ev_pint, kPI_s, ev_sl, kS1_s, kS2_s, kS3_s, kS4_s, ev_lrg, kR1_s, kR2_s, ev_call, kF1_s, kF2_s, kF3_s, ders_nil, ders_cons, kD1_s, kD2_s, rt_d, rt_nw, ev_call1, kG1_s, kG2_s, kG3_s, kG4_s, ow_own, ow_bor, put_own, put_bor, ev_iseq, kI1_s, kI2_t, kI2_l, kI2_f, ev_irg1, kN1_u, kN1_i, ev_irg2, kN2_s, kN3_u, ev_lc, kV1_s, kV2_s, ev_seq, kSeq_n, kSeq_r, kSeq_b, kSeq_c, ev_skip, ev_break, ev_cont, ev_retN, ev_ret, kRt_s, ev_sif, kIf_t, kIf_f, ev_drop, kDr_s, ev_set, kSt_s, kSt2_s, ev_own, kOw_s, ev_unp, kUn_s, kUn2_s, kNx_s, bt_nm, bt_tp, sa_nil, sa_cons, ev_par, kPa_s, sp_nil, sp_own, sp_val, ev_app, kAp_s, kAp2_s, kAp3_s, kAp4_s, ev_sti, kSi_s, kSi2_s, kSi3_s, kSi4_s, kSi5_s, kSi6_s, ev_aug, kAg_s, kAg2_s, val_s, ev_for, kFo_s, loop_nil, loop_cons, kLp_s, kLp_n, kLp_c, kLp_b, kLp_r, ev_while, while_s, kWh_f, kWh_t, kWh_n, kWh_c, kWh_b, kWh_r, lc_nil, lc_cons, kLc1_s, kLc2_t, kLc2_f, kLc3_s, kLc4_s, run0_k, kE0_r, kE0_n, rtOf_d, rtOf_nw, rtOf_sl, rtS_own, run1_k, kE1_r, kE1_n, kE2_s, bor_s, gAdd_i, gAdd_l, gAdd_t, gSub_i, gMul_i, gMod_i, gDiv_i, gPow_i, gEq_i, gEq_s, gEq_b, gCmp_i, gIs_n, gInt_i, gInt_b, gMax_i, gMin_i, gAbs_i, gTup_t, gTup_l, gLen_t, gLen_l, gLen_f, gIx_t, gIx_l, gIx_f, kIx_s, at_0, at_1, at_2, at_3, at_4, at_5, gSl_t, gSl_l,
  List.map_cons, List.map_nil, List.cons_append, List.nil_append, List.append_nil, List.length_cons, List.length_nil, List.replicate_succ, List.replicate_zero, Nat.reduceSub, Nat.reduceAdd, List.getElem?_cons_zero, List.getElem?_cons_succ, List.getElem?_nil, List.set_cons_zero, List.set_cons_succ, List.set_nil, Nat.zero_add, Nat.add_zero,
  List.all_cons, List.all_nil, notSl, Bool.and_true, Bool.true_and, Bool.or_true, Bool.true_or, Bool.and_false, Bool.false_and, Bool.or_false, Bool.false_or, if_true, if_false, Bool.false_eq_true, reduceIte, Bool.not_true, Bool.not_false, Bool.bne_true, Bool.bne_false, decide_true, decide_false, wipeE, backE, backS, nc_0, List.length_map, List.length_append, rg_len, Nat.reduceLeDiff, fd_ix, fi_ix, fi_len, fi_it, dcs, eq_self, Int.reduceEq, Int.reduceLT, Int.reduceLE, Int.reduceAdd, Int.reduceSub, Int.reduceMul, Int.reduceToNat, gIs_c, mkD_n, mkD_s, items, and_true, true_and, and_self, bne_self_eq_false, wt, gIn_t, gIsi_i, gIsi_t, gIsi_s, gIsi_n, gIsi_b, gIsi_l, isi2_c, gEq_n, gEq_l, flatD, eqF_s, eqF_i, eqF_n, List.any_cons, List.any_nil, Rt.o, Option.bind_some, phi0_s, phi1_s, List.reverse_cons, List.reverse_nil, decide_eq_true_eq, *])
/-! ### writing -/
def greatest (f : Frm) : Int := min f.most (match f.width with | .one => f.base - 1 | _ => f.base * f.base - 1)
structure CtOk (f : Frm) (c : Int × List Int) : Prop where
  t : 0 ≤ c.1 ∧ c.1 < f.base
  u : ∃ u, useOf f c.1 = some u ∧ u.told = true
  s : Signs f c.2
  l : (c.2.length : Int) ≤ greatest f
end Dv

set_option Elab.async false
set_option linter.all false
set_option maxRecDepth 100000
set_option maxHeartbeats 4000000
namespace Dv
open PySem PySem.Spec PyProof.Rows L2
local macro_rules | `(tactic| walk_at "ev") => `(tactic| simp only [kRet_s, ev_name, ev_c, nm_val, nm_own, nm_bor, der_d, der_nw, der_sl, sl_own, sl_bor, sl_val, ev_bin, kBin_s, kBin2_s, kBin3_s, kBin4_s, ev_b1, kOne_s, kOne2_s, kRetD_s, ev_un, kUn1_s, kUn12_s, gNeg_i, ev_test, kTst_s, ev_and, ev_or, ev_not, kAnd_t, kAnd_f, kOr_t, kOr_f, kNot_s, ev_notV, kBl_s, ev_andV, ev_orV, kAndV_t, kAndV_f, kOrV_t, kOrV_f, ev_if, kIfE_t, kIfE_f, ev_yes, ev_ch, kCh_s, kCh2_s, kCh3_s, kCh4_s, kCh5_t, kCh5_f, ev_nil, ev_cons, kC1_s, kC2_s, ev_rev, kRv_s, escs_nil, escs_cons, kX1_s, kX2_s, esc_d, esc_nw, esc_sl, escS_own, escS_val, ev_tup, kT1_s, kT2_s, ev_lst, kL1_s, kL2_s, ev_pno, ev_pzero, ev_pint, kPI_s, ev_sl, kS1_s, kS2_s, kS3_s, kS4_s, ev_lrg, kR1_s, kR2_s, ev_call, kF1_s, kF2_s, kF3_s, ders_nil, ders_cons, kD1_s, kD2_s, rt_d, rt_nw, ev_call1, kG1_s, kG2_s, kG3_s, kG4_s, ow_own, ow_bor, put_own, put_bor, ev_iseq, kI1_s, kI2_t, kI2_l, kI2_f, ev_irg1, kN1_u, kN1_i, ev_irg2, kN2_s, kN3_u, ev_lc, kV1_s, kV2_s, ev_seq, kSeq_n, kSeq_r, kSeq_b, kSeq_c, ev_skip, ev_break, ev_cont, ev_retN, ev_ret, kRt_s, ev_sif, kIf_t, kIf_f, ev_drop, kDr_s, ev_set, kSt_s, kSt2_s, ev_own, kOw_s, ev_unp, kUn_s, kUn2_s, kNx_s, bt_nm, bt_tp, sa_nil, sa_cons, ev_par, kPa_s, sp_nil, sp_own, sp_val, ev_app, kAp_s, kAp2_s, kAp3_s, kAp4_s, ev_sti, kSi_s, kSi2_s, kSi3_s, kSi4_s, kSi5_s, kSi6_s, ev_aug, kAg_s, kAg2_s, val_s, ev_for, kFo_s, loop_nil, loop_cons, kLp_s, kLp_n, kLp_c, kLp_b, kLp_r, ev_while, while_s, kWh_f, kWh_t, kWh_n, kWh_c, kWh_b, kWh_r, lc_nil, lc_cons, kLc1_s, kLc2_t, kLc2_f, kLc3_s, kLc4_s, run0_k, kE0_r, kE0_n, rtOf_d, rtOf_nw, rtOf_sl, rtS_own, run1_k, kE1_r, kE1_n, kE2_s, bor_s, gAdd_i, gAdd_l, gAdd_t, gSub_i, gMul_i, gMod_i, gDiv_i, gPow_i, gEq_i, gEq_s, gEq_b, gCmp_i, gIs_n, gInt_i, gInt_b, gMax_i, gMin_i, gAbs_i, gTup_t, gTup_l, gLen_t, gLen_l, gLen_f, gIx_t, gIx_l, gIx_f, kIx_s, at_0, at_1, at_2, at_3, at_4, at_5, gSl_t, gSl_l,
  List.map_cons, List.map_nil, List.cons_append, List.nil_append, List.append_nil, List.length_cons, List.length_nil, List.replicate_succ, List.replicate_zero, Nat.reduceSub, Nat.reduceAdd, List.getElem?_cons_zero, List.getElem?_cons_succ, List.getElem?_nil, List.set_cons_zero, List.set_cons_succ, List.set_nil, Nat.zero_add, Nat.add_zero,
  List.all_cons, List.all_nil, notSl, Bool.and_true, Bool.true_and, Bool.or_true, Bool.true_or, Bool.and_false, Bool.false_and, Bool.or_false, Bool.false_or, if_true, if_false, Bool.false_eq_true, reduceIte, Bool.not_true, Bool.not_false, Bool.bne_true, Bool.bne_false, decide_true, decide_false, wipeE, backE, backS, nc_0, List.length_map, List.length_append, rg_len, Nat.reduceLeDiff, fd_ix, fi_ix, fi_len, fi_it, dcs, eq_self, Int.reduceEq, Int.reduceLT, Int.reduceLE, Int.reduceAdd, Int.reduceSub, Int.reduceMul, Int.reduceToNat, gIs_c, mkD_n, mkD_s, items, and_true, true_and, and_self, bne_self_eq_false, wt, gIn_t, gIsi_i, gIsi_t, gIsi_s, gIsi_n, gIsi_b, gIsi_l, isi2_c, gEq_n, gEq_l, flatD, eqF_s, eqF_i, eqF_n, List.any_cons, List.any_nil, Rt.o, Option.bind_some, phi0_s, phi1_s, List.reverse_cons, List.reverse_nil, decide_eq_true_eq, *])
/-! ### write -/
end Dv

set_option Elab.async false
set_option linter.all false
set_option maxRecDepth 100000
set_option maxHeartbeats 4000000
namespace Dv
open PySem PySem.Spec PyProof.Rows L2
local macro_rules | `(tactic| walk_at "ev") => `(tactic| simp only [kRet_s, ev_name, ev_c, nm_val, nm_own, nm_bor, der_d, der_nw, der_sl, sl_own, sl_bor, sl_val, ev_bin, kBin_s, kBin2_s, kBin3_s, kBin4_s, ev_b1, kOne_s, kOne2_s, kRetD_s, ev_un, kUn1_s, kUn12_s, gNeg_i, ev_test, kTst_s, ev_and, ev_or, ev_not, kAnd_t, kAnd_f, kOr_t, kOr_f, kNot_s, ev_notV, kBl_s, ev_andV, ev_orV, kAndV_t, kAndV_f, kOrV_t, kOrV_f, ev_if, kIfE_t, kIfE_f, ev_yes, ev_ch, kCh_s, kCh2_s, kCh3_s, kCh4_s, kCh5_t, kCh5_f, ev_nil, ev_cons, kC1_s, kC2_s, ev_rev, kRv_s, escs_nil, escs_cons, kX1_s, kX2_s, esc_d, esc_nw, esc_sl, escS_own, escS_val, ev_tup, kT1_s, kT2_s, ev_lst, kL1_s, kL2_s, ev_pno, ev_pzero, ev_pint, kPI_s, ev_sl, kS1_s, kS2_s, kS3_s, kS4_s, ev_lrg, kR1_s, kR2_s, ev_call, kF1_s, kF2_s, kF3_s, ders_nil, ders_cons, kD1_s, kD2_s, rt_d, rt_nw, ev_call1, kG1_s, kG2_s, kG3_s, kG4_s, ow_own, ow_bor, put_own, put_bor, ev_iseq, kI1_s, kI2_t, kI2_l, kI2_f, ev_irg1, kN1_u, kN1_i, ev_irg2, kN2_s, kN3_u, ev_lc, kV1_s, kV2_s, ev_seq, kSeq_n, kSeq_r, kSeq_b, kSeq_c, ev_skip, ev_break, ev_cont, ev_retN, ev_ret, kRt_s, ev_sif, kIf_t, kIf_f, ev_drop, kDr_s, ev_set, kSt_s, kSt2_s, ev_own, kOw_s, ev_unp, kUn_s, kUn2_s, kNx_s, bt_nm, bt_tp, sa_nil, sa_cons, ev_par, kPa_s, sp_nil, sp_own, sp_val, ev_app, kAp_s, kAp2_s, kAp3_s, kAp4_s, ev_sti, kSi_s, kSi2_s, kSi3_s, kSi4_s, kSi5_s, kSi6_s, ev_aug, kAg_s, kAg2_s, val_s, ev_for, kFo_s, loop_nil, loop_cons, kLp_s, kLp_n, kLp_c, kLp_b, kLp_r, ev_while, while_s, kWh_f, kWh_t, kWh_n, kWh_c, kWh_b, kWh_r, lc_nil, lc_cons, kLc1_s, kLc2_t, kLc2_f, kLc3_s, kLc4_s, run0_k, kE0_r, kE0_n, rtOf_d, rtOf_nw, rtOf_sl, rtS_own, run1_k, kE1_r, kE1_n, kE2_s, bor_s, gAdd_i, gAdd_l, gAdd_t, gSub_i, gMul_i, gMod_i, gDiv_i, gPow_i, gEq_i, gEq_s, gEq_b, gCmp_i, gIs_n, gInt_i, gInt_b, gMax_i, gMin_i, gAbs_i, gTup_t, gTup_l, gLen_t, gLen_l, gLen_f, gIx_t, gIx_l, gIx_f, kIx_s, at_0, at_1, at_2, at_3, at_4, at_5, gSl_t, gSl_l,
  List.map_cons, List.map_nil, List.cons_append, List.nil_append, List.append_nil, List.length_cons, List.length_nil, List.replicate_succ, List.replicate_zero, Nat.reduceSub, Nat.reduceAdd, List.getElem?_cons_zero, List.getElem?_cons_succ, List.getElem?_nil, List.set_cons_zero, List.set_cons_succ, List.set_nil, Nat.zero_add, Nat.add_zero,
  List.all_cons, List.all_nil, notSl, Bool.and_true, Bool.true_and, Bool.or_true, Bool.true_or, Bool.and_false, Bool.false_and, Bool.or_false, Bool.false_or, if_true, if_false, Bool.false_eq_true, reduceIte, Bool.not_true, Bool.not_false, Bool.bne_true, Bool.bne_false, decide_true, decide_false, wipeE, backE, backS, nc_0, List.length_map, List.length_append, rg_len, Nat.reduceLeDiff, fd_ix, fi_ix, fi_len, fi_it, dcs, eq_self, Int.reduceEq, Int.reduceLT, Int.reduceLE, Int.reduceAdd, Int.reduceSub, Int.reduceMul, Int.reduceToNat, gIs_c, mkD_n, mkD_s, items, and_true, true_and, and_self, bne_self_eq_false, wt, gIn_t, gIsi_i, gIsi_t, gIsi_s, gIsi_n, gIsi_b, gIsi_l, isi2_c, gEq_n, gEq_l, flatD, eqF_s, eqF_i, eqF_n, List.any_cons, List.any_nil, Rt.o, Option.bind_some, phi0_s, phi1_s, List.reverse_cons, List.reverse_nil, decide_eq_true_eq, *])
/-! ### the law's writing -/
end Dv

set_option Elab.async false
set_option linter.all false
set_option maxRecDepth 100000
set_option maxHeartbeats 4000000
namespace Dv
open PySem PySem.Spec PyProof.Rows L2
local macro_rules | `(tactic| walk_at "ev") => `(tactic| simp only [kRet_s, ev_name, ev_c, nm_val, nm_own, nm_bor, der_d, der_nw, der_sl, sl_own, sl_bor, sl_val, ev_bin, kBin_s, kBin2_s, kBin3_s, kBin4_s, ev_b1, kOne_s, kOne2_s, kRetD_s, ev_un, kUn1_s, kUn12_s, gNeg_i, ev_test, kTst_s, ev_and, ev_or, ev_not, kAnd_t, kAnd_f, kOr_t, kOr_f, kNot_s, ev_notV, kBl_s, ev_andV, ev_orV, kAndV_t, kAndV_f, kOrV_t, kOrV_f, ev_if, kIfE_t, kIfE_f, ev_yes, ev_ch, kCh_s, kCh2_s, kCh3_s, kCh4_s, kCh5_t, kCh5_f, ev_nil, ev_cons, kC1_s, kC2_s, ev_rev, kRv_s, escs_nil, escs_cons, kX1_s, kX2_s, esc_d, esc_nw, esc_sl, escS_own, escS_val, ev_tup, kT1_s, kT2_s, ev_lst, kL1_s, kL2_s, ev_pno, ev_pzero, ev_pint, kPI_s, ev_sl, kS1_s, kS2_s, kS3_s, kS4_s, ev_lrg, kR1_s, kR2_s, ev_call, kF1_s, kF2_s, kF3_s, ders_nil, ders_cons, kD1_s, kD2_s, rt_d, rt_nw, ev_call1, kG1_s, kG2_s, kG3_s, kG4_s, ow_own, ow_bor, put_own, put_bor, ev_iseq, kI1_s, kI2_t, kI2_l, kI2_f, ev_irg1, kN1_u, kN1_i, ev_irg2, kN2_s, kN3_u, ev_lc, kV1_s, kV2_s, ev_seq, kSeq_n, kSeq_r, kSeq_b, kSeq_c, ev_skip, ev_break, ev_cont, ev_retN, ev_ret, kRt_s, ev_sif, kIf_t, kIf_f, ev_drop, kDr_s, ev_set, kSt_s, kSt2_s, ev_own, kOw_s, ev_unp, kUn_s, kUn2_s, kNx_s, bt_nm, bt_tp, sa_nil, sa_cons, ev_par, kPa_s, sp_nil, sp_own, sp_val, ev_app, kAp_s, kAp2_s, kAp3_s, kAp4_s, ev_sti, kSi_s, kSi2_s, kSi3_s, kSi4_s, kSi5_s, kSi6_s, ev_aug, kAg_s, kAg2_s, val_s, ev_for, kFo_s, loop_nil, loop_cons, kLp_s, kLp_n, kLp_c, kLp_b, kLp_r, ev_while, while_s, kWh_f, kWh_t, kWh_n, kWh_c, kWh_b, kWh_r, lc_nil, lc_cons, kLc1_s, kLc2_t, kLc2_f, kLc3_s, kLc4_s, run0_k, kE0_r, kE0_n, rtOf_d, rtOf_nw, rtOf_sl, rtS_own, run1_k, kE1_r, kE1_n, kE2_s, bor_s, gAdd_i, gAdd_l, gAdd_t, gSub_i, gMul_i, gMod_i, gDiv_i, gPow_i, gEq_i, gEq_s, gEq_b, gCmp_i, gIs_n, gInt_i, gInt_b, gMax_i, gMin_i, gAbs_i, gTup_t, gTup_l, gLen_t, gLen_l, gLen_f, gIx_t, gIx_l, gIx_f, kIx_s, at_0, at_1, at_2, at_3, at_4, at_5, gSl_t, gSl_l,
  List.map_cons, List.map_nil, List.cons_append, List.nil_append, List.append_nil, List.length_cons, List.length_nil, List.replicate_succ, List.replicate_zero, Nat.reduceSub, Nat.reduceAdd, List.getElem?_cons_zero, List.getElem?_cons_succ, List.getElem?_nil, List.set_cons_zero, List.set_cons_succ, List.set_nil, Nat.zero_add, Nat.add_zero,
  List.all_cons, List.all_nil, notSl, Bool.and_true, Bool.true_and, Bool.or_true, Bool.true_or, Bool.and_false, Bool.false_and, Bool.or_false, Bool.false_or, if_true, if_false, Bool.false_eq_true, reduceIte, Bool.not_true, Bool.not_false, Bool.bne_true, Bool.bne_false, decide_true, decide_false, wipeE, backE, backS, nc_0, List.length_map, List.length_append, rg_len, Nat.reduceLeDiff, fd_ix, fi_ix, fi_len, fi_it, dcs, eq_self, Int.reduceEq, Int.reduceLT, Int.reduceLE, Int.reduceAdd, Int.reduceSub, Int.reduceMul, Int.reduceToNat, gIs_c, mkD_n, mkD_s, items, and_true, true_and, and_self, bne_self_eq_false, wt, gIn_t, gIsi_i, gIsi_t, gIsi_s, gIsi_n, gIsi_b, gIsi_l, isi2_c, gEq_n, gEq_l, flatD, eqF_s, eqF_i, eqF_n, List.any_cons, List.any_nil, Rt.o, Option.bind_some, phi0_s, phi1_s, List.reverse_cons, List.reverse_nil, decide_eq_true_eq, *])
/-! ### drawn contents -/
end Dv

set_option Elab.async false
set_option linter.all false
set_option maxRecDepth 100000
set_option maxHeartbeats 4000000
namespace Dv
open PySem PySem.Spec PyProof.Rows L2
local macro_rules | `(tactic| walk_at "ev") => `(tactic| simp only [kRet_s, ev_name, ev_c, nm_val, nm_own, nm_bor, der_d, der_nw, der_sl, sl_own, sl_bor, sl_val, ev_bin, kBin_s, kBin2_s, kBin3_s, kBin4_s, ev_b1, kOne_s, kOne2_s, kRetD_s, ev_un, kUn1_s, kUn12_s, gNeg_i, ev_test, kTst_s, ev_and, ev_or, ev_not, kAnd_t, kAnd_f, kOr_t, kOr_f, kNot_s, ev_notV, kBl_s, ev_andV, ev_orV, kAndV_t, kAndV_f, kOrV_t, kOrV_f, ev_if, kIfE_t, kIfE_f, ev_yes, ev_ch, kCh_s, kCh2_s, kCh3_s, kCh4_s, kCh5_t, kCh5_f, ev_nil, ev_cons, kC1_s, kC2_s, ev_rev, kRv_s, escs_nil, escs_cons, kX1_s, kX2_s, esc_d, esc_nw, esc_sl, escS_own, escS_val, ev_tup, kT1_s, kT2_s, ev_lst, kL1_s, kL2_s, ev_pno, ev_pzero, ev_pint, kPI_s, ev_sl, kS1_s, kS2_s, kS3_s, kS4_s, ev_lrg, kR1_s, kR2_s, ev_call, kF1_s, kF2_s, kF3_s, ders_nil, ders_cons, kD1_s, kD2_s, rt_d, rt_nw, ev_call1, kG1_s, kG2_s, kG3_s, kG4_s, ow_own, ow_bor, put_own, put_bor, ev_iseq, kI1_s, kI2_t, kI2_l, kI2_f, ev_irg1, kN1_u, kN1_i, ev_irg2, kN2_s, kN3_u, ev_lc, kV1_s, kV2_s, ev_seq, kSeq_n, kSeq_r, kSeq_b, kSeq_c, ev_skip, ev_break, ev_cont, ev_retN, ev_ret, kRt_s, ev_sif, kIf_t, kIf_f, ev_drop, kDr_s, ev_set, kSt_s, kSt2_s, ev_own, kOw_s, ev_unp, kUn_s, kUn2_s, kNx_s, bt_nm, bt_tp, sa_nil, sa_cons, ev_par, kPa_s, sp_nil, sp_own, sp_val, ev_app, kAp_s, kAp2_s, kAp3_s, kAp4_s, ev_sti, kSi_s, kSi2_s, kSi3_s, kSi4_s, kSi5_s, kSi6_s, ev_aug, kAg_s, kAg2_s, val_s, ev_for, kFo_s, loop_nil, loop_cons, kLp_s, kLp_n, kLp_c, kLp_b, kLp_r, ev_while, while_s, kWh_f, kWh_t, kWh_n, kWh_c, kWh_b, kWh_r, lc_nil, lc_cons, kLc1_s, kLc2_t, kLc2_f, kLc3_s, kLc4_s, run0_k, kE0_r, kE0_n, rtOf_d, rtOf_nw, rtOf_sl, rtS_own, run1_k, kE1_r, kE1_n, kE2_s, bor_s, gAdd_i, gAdd_l, gAdd_t, gSub_i, gMul_i, gMod_i, gDiv_i, gPow_i, gEq_i, gEq_s, gEq_b, gCmp_i, gIs_n, gInt_i, gInt_b, gMax_i, gMin_i, gAbs_i, gTup_t, gTup_l, gLen_t, gLen_l, gLen_f, gIx_t, gIx_l, gIx_f, kIx_s, at_0, at_1, at_2, at_3, at_4, at_5, gSl_t, gSl_l,
  List.map_cons, List.map_nil, List.cons_append, List.nil_append, List.append_nil, List.length_cons, List.length_nil, List.replicate_succ, List.replicate_zero, Nat.reduceSub, Nat.reduceAdd, List.getElem?_cons_zero, List.getElem?_cons_succ, List.getElem?_nil, List.set_cons_zero, List.set_cons_succ, List.set_nil, Nat.zero_add, Nat.add_zero,
  List.all_cons, List.all_nil, notSl, Bool.and_true, Bool.true_and, Bool.or_true, Bool.true_or, Bool.and_false, Bool.false_and, Bool.or_false, Bool.false_or, if_true, if_false, Bool.false_eq_true, reduceIte, Bool.not_true, Bool.not_false, Bool.bne_true, Bool.bne_false, decide_true, decide_false, wipeE, backE, backS, nc_0, List.length_map, List.length_append, rg_len, Nat.reduceLeDiff, fd_ix, fi_ix, fi_len, fi_it, dcs, eq_self, Int.reduceEq, Int.reduceLT, Int.reduceLE, Int.reduceAdd, Int.reduceSub, Int.reduceMul, Int.reduceToNat, gIs_c, mkD_n, mkD_s, items, and_true, true_and, and_self, bne_self_eq_false, wt, gIn_t, gIsi_i, gIsi_t, gIsi_s, gIsi_n, gIsi_b, gIsi_l, isi2_c, gEq_n, gEq_l, flatD, eqF_s, eqF_i, eqF_n, List.any_cons, List.any_nil, Rt.o, Option.bind_some, phi0_s, phi1_s, List.reverse_cons, List.reverse_nil, decide_eq_true_eq, *])
end Dv

set_option Elab.async false
set_option linter.all false
set_option maxRecDepth 100000
set_option maxHeartbeats 4000000
namespace Dv
open PySem PySem.Spec PyProof.Rows L2
local macro_rules | `(tactic| walk_at "ev") => `(tactic| simp only [kRet_s, ev_name, ev_c, nm_val, nm_own, nm_bor, der_d, der_nw, der_sl, sl_own, sl_bor, sl_val, ev_bin, kBin_s, kBin2_s, kBin3_s, kBin4_s, ev_b1, kOne_s, kOne2_s, kRetD_s, ev_un, kUn1_s, kUn12_s, gNeg_i, ev_test, kTst_s, ev_and, ev_or, ev_not, kAnd_t, kAnd_f, kOr_t, kOr_f, kNot_s, ev_notV, kBl_s, ev_andV, ev_orV, kAndV_t, kAndV_f, kOrV_t, kOrV_f, ev_if, kIfE_t, kIfE_f, ev_yes, ev_ch, kCh_s, kCh2_s, kCh3_s, kCh4_s, kCh5_t, kCh5_f, ev_nil, ev_cons, kC1_s, kC2_s, ev_rev, kRv_s, escs_nil, escs_cons, kX1_s, kX2_s, esc_d, esc_nw, esc_sl, escS_own, escS_val, ev_tup, kT1_s, kT2_s, ev_lst, kL1_s, kL2_s, ev_pno, ev_pzero, ev_pint, kPI_s, ev_sl, kS1_s, kS2_s, kS3_s, kS4_s, ev_lrg, kR1_s, kR2_s, ev_call, kF1_s, kF2_s, kF3_s, ders_nil, ders_cons, kD1_s, kD2_s, rt_d, rt_nw, ev_call1, kG1_s, kG2_s, kG3_s, kG4_s, ow_own, ow_bor, put_own, put_bor, ev_iseq, kI1_s, kI2_t, kI2_l, kI2_f, ev_irg1, kN1_u, kN1_i, ev_irg2, kN2_s, kN3_u, ev_lc, kV1_s, kV2_s, ev_seq, kSeq_n, kSeq_r, kSeq_b, kSeq_c, ev_skip, ev_break, ev_cont, ev_retN, ev_ret, kRt_s, ev_sif, kIf_t, kIf_f, ev_drop, kDr_s, ev_set, kSt_s, kSt2_s, ev_own, kOw_s, ev_unp, kUn_s, kUn2_s, kNx_s, bt_nm, bt_tp, sa_nil, sa_cons, ev_par, kPa_s, sp_nil, sp_own, sp_val, ev_app, kAp_s, kAp2_s, kAp3_s, kAp4_s, ev_sti, kSi_s, kSi2_s, kSi3_s, kSi4_s, kSi5_s, kSi6_s, ev_aug, kAg_s, kAg2_s, val_s, ev_for, kFo_s, loop_nil, loop_cons, kLp_s, kLp_n, kLp_c, kLp_b, kLp_r, ev_while, while_s, kWh_f, kWh_t, kWh_n, kWh_c, kWh_b, kWh_r, lc_nil, lc_cons, kLc1_s, kLc2_t, kLc2_f, kLc3_s, kLc4_s, run0_k, kE0_r, kE0_n, rtOf_d, rtOf_nw, rtOf_sl, rtS_own, run1_k, kE1_r, kE1_n, kE2_s, bor_s, gAdd_i, gAdd_l, gAdd_t, gSub_i, gMul_i, gMod_i, gDiv_i, gPow_i, gEq_i, gEq_s, gEq_b, gCmp_i, gIs_n, gInt_i, gInt_b, gMax_i, gMin_i, gAbs_i, gTup_t, gTup_l, gLen_t, gLen_l, gLen_f, gIx_t, gIx_l, gIx_f, kIx_s, at_0, at_1, at_2, at_3, at_4, at_5, gSl_t, gSl_l,
  List.map_cons, List.map_nil, List.cons_append, List.nil_append, List.append_nil, List.length_cons, List.length_nil, List.replicate_succ, List.replicate_zero, Nat.reduceSub, Nat.reduceAdd, List.getElem?_cons_zero, List.getElem?_cons_succ, List.getElem?_nil, List.set_cons_zero, List.set_cons_succ, List.set_nil, Nat.zero_add, Nat.add_zero,
  List.all_cons, List.all_nil, notSl, Bool.and_true, Bool.true_and, Bool.or_true, Bool.true_or, Bool.and_false, Bool.false_and, Bool.or_false, Bool.false_or, if_true, if_false, Bool.false_eq_true, reduceIte, Bool.not_true, Bool.not_false, Bool.bne_true, Bool.bne_false, decide_true, decide_false, wipeE, backE, backS, nc_0, List.length_map, List.length_append, rg_len, Nat.reduceLeDiff, fd_ix, fi_ix, fi_len, fi_it, dcs, eq_self, Int.reduceEq, Int.reduceLT, Int.reduceLE, Int.reduceAdd, Int.reduceSub, Int.reduceMul, Int.reduceToNat, gIs_c, mkD_n, mkD_s, items, and_true, true_and, and_self, bne_self_eq_false, wt, gIn_t, gIsi_i, gIsi_t, gIsi_s, gIsi_n, gIsi_b, gIsi_l, isi2_c, gEq_n, gEq_l, flatD, eqF_s, eqF_i, eqF_n, List.any_cons, List.any_nil, Rt.o, Option.bind_some, phi0_s, phi1_s, List.reverse_cons, List.reverse_nil, decide_eq_true_eq, *])
/-! ### what is written is read -/
end Dv

set_option Elab.async false
set_option linter.all false
set_option maxRecDepth 100000
set_option maxHeartbeats 4000000
namespace Dv
open PySem PySem.Spec PyProof.Rows L2
local macro_rules | `(tactic| walk_at "ev") => `(tactic| simp only [kRet_s, ev_name, ev_c, nm_val, nm_own, nm_bor, der_d, der_nw, der_sl, sl_own, sl_bor, sl_val, ev_bin, kBin_s, kBin2_s, kBin3_s, kBin4_s, ev_b1, kOne_s, kOne2_s, kRetD_s, ev_un, kUn1_s, kUn12_s, gNeg_i, ev_test, kTst_s, ev_and, ev_or, ev_not, kAnd_t, kAnd_f, kOr_t, kOr_f, kNot_s, ev_notV, kBl_s, ev_andV, ev_orV, kAndV_t, kAndV_f, kOrV_t, kOrV_f, ev_if, kIfE_t, kIfE_f, ev_yes, ev_ch, kCh_s, kCh2_s, kCh3_s, kCh4_s, kCh5_t, kCh5_f, ev_nil, ev_cons, kC1_s, kC2_s, ev_rev, kRv_s, escs_nil, escs_cons, kX1_s, kX2_s, esc_d, esc_nw, esc_sl, escS_own, escS_val, ev_tup, kT1_s, kT2_s, ev_lst, kL1_s, kL2_s, ev_pno, ev_pzero, ev_pint, kPI_s, ev_sl, kS1_s, kS2_s, kS3_s, kS4_s, ev_lrg, kR1_s, kR2_s, ev_call, kF1_s, kF2_s, kF3_s, ders_nil, ders_cons, kD1_s, kD2_s, rt_d, rt_nw, ev_call1, kG1_s, kG2_s, kG3_s, kG4_s, ow_own, ow_bor, put_own, put_bor, ev_iseq, kI1_s, kI2_t, kI2_l, kI2_f, ev_irg1, kN1_u, kN1_i, ev_irg2, kN2_s, kN3_u, ev_lc, kV1_s, kV2_s, ev_seq, kSeq_n, kSeq_r, kSeq_b, kSeq_c, ev_skip, ev_break, ev_cont, ev_retN, ev_ret, kRt_s, ev_sif, kIf_t, kIf_f, ev_drop, kDr_s, ev_set, kSt_s, kSt2_s, ev_own, kOw_s, ev_unp, kUn_s, kUn2_s, kNx_s, bt_nm, bt_tp, sa_nil, sa_cons, ev_par, kPa_s, sp_nil, sp_own, sp_val, ev_app, kAp_s, kAp2_s, kAp3_s, kAp4_s, ev_sti, kSi_s, kSi2_s, kSi3_s, kSi4_s, kSi5_s, kSi6_s, ev_aug, kAg_s, kAg2_s, val_s, ev_for, kFo_s, loop_nil, loop_cons, kLp_s, kLp_n, kLp_c, kLp_b, kLp_r, ev_while, while_s, kWh_f, kWh_t, kWh_n, kWh_c, kWh_b, kWh_r, lc_nil, lc_cons, kLc1_s, kLc2_t, kLc2_f, kLc3_s, kLc4_s, run0_k, kE0_r, kE0_n, rtOf_d, rtOf_nw, rtOf_sl, rtS_own, run1_k, kE1_r, kE1_n, kE2_s, bor_s, gAdd_i, gAdd_l, gAdd_t, gSub_i, gMul_i, gMod_i, gDiv_i, gPow_i, gEq_i, gEq_s, gEq_b, gCmp_i, gIs_n, gInt_i, gInt_b, gMax_i, gMin_i, gAbs_i, gTup_t, gTup_l, gLen_t, gLen_l, gLen_f, gIx_t, gIx_l, gIx_f, kIx_s, at_0, at_1, at_2, at_3, at_4, at_5, gSl_t, gSl_l,
  List.map_cons, List.map_nil, List.cons_append, List.nil_append, List.append_nil, List.length_cons, List.length_nil, List.replicate_succ, List.replicate_zero, Nat.reduceSub, Nat.reduceAdd, List.getElem?_cons_zero, List.getElem?_cons_succ, List.getElem?_nil, List.set_cons_zero, List.set_cons_succ, List.set_nil, Nat.zero_add, Nat.add_zero,
  List.all_cons, List.all_nil, notSl, Bool.and_true, Bool.true_and, Bool.or_true, Bool.true_or, Bool.and_false, Bool.false_and, Bool.or_false, Bool.false_or, if_true, if_false, Bool.false_eq_true, reduceIte, Bool.not_true, Bool.not_false, Bool.bne_true, Bool.bne_false, decide_true, decide_false, wipeE, backE, backS, nc_0, List.length_map, List.length_append, rg_len, Nat.reduceLeDiff, fd_ix, fi_ix, fi_len, fi_it, dcs, eq_self, Int.reduceEq, Int.reduceLT, Int.reduceLE, Int.reduceAdd, Int.reduceSub, Int.reduceMul, Int.reduceToNat, gIs_c, mkD_n, mkD_s, items, and_true, true_and, and_self, bne_self_eq_false, wt, gIn_t, gIsi_i, gIsi_t, gIsi_s, gIsi_n, gIsi_b, gIsi_l, isi2_c, gEq_n, gEq_l, flatD, eqF_s, eqF_i, eqF_n, List.any_cons, List.any_nil, Rt.o, Option.bind_some, phi0_s, phi1_s, List.reverse_cons, List.reverse_nil, decide_eq_true_eq, *])
/-! ### what is written is the least file -/
def LL : List Int → List Int → Prop
  | [], _ => True
  | _ :: _, [] => False
  | x :: xs, y :: ys => x < y ∨ (x = y ∧ LL xs ys)
theorem LL.refl : ∀ xs, LL xs xs
  | [] => trivial
  | x :: xs => .inr ⟨rfl, LL.refl xs⟩
theorem LL.app : ∀ (zs : List Int) {xs ys : List Int}, LL xs ys → LL (zs ++ xs) (zs ++ ys)
  | [], _, _, h => h
  | z :: zs, _, _, h => .inr ⟨rfl, LL.app zs h⟩
end Dv

set_option Elab.async false
set_option linter.all false
set_option maxRecDepth 100000
set_option maxHeartbeats 4000000
namespace Dv
open PySem PySem.Spec PyProof.Rows L2
local macro_rules | `(tactic| walk_at "ev") => `(tactic| simp only [kRet_s, ev_name, ev_c, nm_val, nm_own, nm_bor, der_d, der_nw, der_sl, sl_own, sl_bor, sl_val, ev_bin, kBin_s, kBin2_s, kBin3_s, kBin4_s, ev_b1, kOne_s, kOne2_s, kRetD_s, ev_un, kUn1_s, kUn12_s, gNeg_i, ev_test, kTst_s, ev_and, ev_or, ev_not, kAnd_t, kAnd_f, kOr_t, kOr_f, kNot_s, ev_notV, kBl_s, ev_andV, ev_orV, kAndV_t, kAndV_f, kOrV_t, kOrV_f, ev_if, kIfE_t, kIfE_f, ev_yes, ev_ch, kCh_s, kCh2_s, kCh3_s, kCh4_s, kCh5_t, kCh5_f, ev_nil, ev_cons, kC1_s, kC2_s, ev_rev, kRv_s, escs_nil, escs_cons, kX1_s, kX2_s, esc_d, esc_nw, esc_sl, escS_own, escS_val, ev_tup, kT1_s, kT2_s, ev_lst, kL1_s, kL2_s, ev_pno, ev_pzero, ev_pint, kPI_s, ev_sl, kS1_s, kS2_s, kS3_s, kS4_s, ev_lrg, kR1_s, kR2_s, ev_call, kF1_s, kF2_s, kF3_s, ders_nil, ders_cons, kD1_s, kD2_s, rt_d, rt_nw, ev_call1, kG1_s, kG2_s, kG3_s, kG4_s, ow_own, ow_bor, put_own, put_bor, ev_iseq, kI1_s, kI2_t, kI2_l, kI2_f, ev_irg1, kN1_u, kN1_i, ev_irg2, kN2_s, kN3_u, ev_lc, kV1_s, kV2_s, ev_seq, kSeq_n, kSeq_r, kSeq_b, kSeq_c, ev_skip, ev_break, ev_cont, ev_retN, ev_ret, kRt_s, ev_sif, kIf_t, kIf_f, ev_drop, kDr_s, ev_set, kSt_s, kSt2_s, ev_own, kOw_s, ev_unp, kUn_s, kUn2_s, kNx_s, bt_nm, bt_tp, sa_nil, sa_cons, ev_par, kPa_s, sp_nil, sp_own, sp_val, ev_app, kAp_s, kAp2_s, kAp3_s, kAp4_s, ev_sti, kSi_s, kSi2_s, kSi3_s, kSi4_s, kSi5_s, kSi6_s, ev_aug, kAg_s, kAg2_s, val_s, ev_for, kFo_s, loop_nil, loop_cons, kLp_s, kLp_n, kLp_c, kLp_b, kLp_r, ev_while, while_s, kWh_f, kWh_t, kWh_n, kWh_c, kWh_b, kWh_r, lc_nil, lc_cons, kLc1_s, kLc2_t, kLc2_f, kLc3_s, kLc4_s, run0_k, kE0_r, kE0_n, rtOf_d, rtOf_nw, rtOf_sl, rtS_own, run1_k, kE1_r, kE1_n, kE2_s, bor_s, gAdd_i, gAdd_l, gAdd_t, gSub_i, gMul_i, gMod_i, gDiv_i, gPow_i, gEq_i, gEq_s, gEq_b, gCmp_i, gIs_n, gInt_i, gInt_b, gMax_i, gMin_i, gAbs_i, gTup_t, gTup_l, gLen_t, gLen_l, gLen_f, gIx_t, gIx_l, gIx_f, kIx_s, at_0, at_1, at_2, at_3, at_4, at_5, gSl_t, gSl_l,
  List.map_cons, List.map_nil, List.cons_append, List.nil_append, List.append_nil, List.length_cons, List.length_nil, List.replicate_succ, List.replicate_zero, Nat.reduceSub, Nat.reduceAdd, List.getElem?_cons_zero, List.getElem?_cons_succ, List.getElem?_nil, List.set_cons_zero, List.set_cons_succ, List.set_nil, Nat.zero_add, Nat.add_zero,
  List.all_cons, List.all_nil, notSl, Bool.and_true, Bool.true_and, Bool.or_true, Bool.true_or, Bool.and_false, Bool.false_and, Bool.or_false, Bool.false_or, if_true, if_false, Bool.false_eq_true, reduceIte, Bool.not_true, Bool.not_false, Bool.bne_true, Bool.bne_false, decide_true, decide_false, wipeE, backE, backS, nc_0, List.length_map, List.length_append, rg_len, Nat.reduceLeDiff, fd_ix, fi_ix, fi_len, fi_it, dcs, eq_self, Int.reduceEq, Int.reduceLT, Int.reduceLE, Int.reduceAdd, Int.reduceSub, Int.reduceMul, Int.reduceToNat, gIs_c, mkD_n, mkD_s, items, and_true, true_and, and_self, bne_self_eq_false, wt, gIn_t, gIsi_i, gIsi_t, gIsi_s, gIsi_n, gIsi_b, gIsi_l, isi2_c, gEq_n, gEq_l, flatD, eqF_s, eqF_i, eqF_n, List.any_cons, List.any_nil, Rt.o, Option.bind_some, phi0_s, phi1_s, List.reverse_cons, List.reverse_nil, decide_eq_true_eq, *])
/-! ### equal files, equal contents -/
/-! ### all files of a size -/
def SL : List Int → List Int → Prop
  | x :: xs, y :: ys => x < y ∨ (x = y ∧ SL xs ys)
  | _, _ => False
theorem SL.not : ∀ {xs ys : List Int}, SL xs ys → ¬ LL ys xs
  | [], _, h => h.elim
  | _ :: _, [], h => h.elim
  | x :: xs, y :: ys, h => fun h' => by
    rcases h with h | ⟨h, h2⟩ <;> rcases h' with h' | ⟨h', h3⟩
    · omega
    · omega
    · omega
    · exact SL.not h2 h3
theorem SL.app : ∀ {xs ys : List Int} (u v : List Int), SL xs ys → SL (xs ++ u) (ys ++ v)
  | [], _, _, _, h => h.elim
  | _ :: _, [], _, _, h => h.elim
  | x :: xs, y :: ys, u, v, h => Or.elim h (fun h => Or.inl h) fun h => Or.inr ⟨h.1, SL.app u v h.2⟩
theorem SL.pre : ∀ (zs : List Int) {xs ys : List Int}, SL xs ys → SL (zs ++ xs) (zs ++ ys)
  | [], _, _, h => h
  | z :: zs, _, _, h => Or.inr ⟨rfl, SL.pre zs h⟩
end Dv

set_option Elab.async false
set_option linter.all false
set_option maxRecDepth 100000
set_option maxHeartbeats 4000000
namespace Dv
open PySem PySem.Spec PyProof.Rows L2
local macro_rules | `(tactic| walk_at "ev") => `(tactic| simp only [kRet_s, ev_name, ev_c, nm_val, nm_own, nm_bor, der_d, der_nw, der_sl, sl_own, sl_bor, sl_val, ev_bin, kBin_s, kBin2_s, kBin3_s, kBin4_s, ev_b1, kOne_s, kOne2_s, kRetD_s, ev_un, kUn1_s, kUn12_s, gNeg_i, ev_test, kTst_s, ev_and, ev_or, ev_not, kAnd_t, kAnd_f, kOr_t, kOr_f, kNot_s, ev_notV, kBl_s, ev_andV, ev_orV, kAndV_t, kAndV_f, kOrV_t, kOrV_f, ev_if, kIfE_t, kIfE_f, ev_yes, ev_ch, kCh_s, kCh2_s, kCh3_s, kCh4_s, kCh5_t, kCh5_f, ev_nil, ev_cons, kC1_s, kC2_s, ev_rev, kRv_s, escs_nil, escs_cons, kX1_s, kX2_s, esc_d, esc_nw, esc_sl, escS_own, escS_val, ev_tup, kT1_s, kT2_s, ev_lst, kL1_s, kL2_s, ev_pno, ev_pzero, ev_pint, kPI_s, ev_sl, kS1_s, kS2_s, kS3_s, kS4_s, ev_lrg, kR1_s, kR2_s, ev_call, kF1_s, kF2_s, kF3_s, ders_nil, ders_cons, kD1_s, kD2_s, rt_d, rt_nw, ev_call1, kG1_s, kG2_s, kG3_s, kG4_s, ow_own, ow_bor, put_own, put_bor, ev_iseq, kI1_s, kI2_t, kI2_l, kI2_f, ev_irg1, kN1_u, kN1_i, ev_irg2, kN2_s, kN3_u, ev_lc, kV1_s, kV2_s, ev_seq, kSeq_n, kSeq_r, kSeq_b, kSeq_c, ev_skip, ev_break, ev_cont, ev_retN, ev_ret, kRt_s, ev_sif, kIf_t, kIf_f, ev_drop, kDr_s, ev_set, kSt_s, kSt2_s, ev_own, kOw_s, ev_unp, kUn_s, kUn2_s, kNx_s, bt_nm, bt_tp, sa_nil, sa_cons, ev_par, kPa_s, sp_nil, sp_own, sp_val, ev_app, kAp_s, kAp2_s, kAp3_s, kAp4_s, ev_sti, kSi_s, kSi2_s, kSi3_s, kSi4_s, kSi5_s, kSi6_s, ev_aug, kAg_s, kAg2_s, val_s, ev_for, kFo_s, loop_nil, loop_cons, kLp_s, kLp_n, kLp_c, kLp_b, kLp_r, ev_while, while_s, kWh_f, kWh_t, kWh_n, kWh_c, kWh_b, kWh_r, lc_nil, lc_cons, kLc1_s, kLc2_t, kLc2_f, kLc3_s, kLc4_s, run0_k, kE0_r, kE0_n, rtOf_d, rtOf_nw, rtOf_sl, rtS_own, run1_k, kE1_r, kE1_n, kE2_s, bor_s, gAdd_i, gAdd_l, gAdd_t, gSub_i, gMul_i, gMod_i, gDiv_i, gPow_i, gEq_i, gEq_s, gEq_b, gCmp_i, gIs_n, gInt_i, gInt_b, gMax_i, gMin_i, gAbs_i, gTup_t, gTup_l, gLen_t, gLen_l, gLen_f, gIx_t, gIx_l, gIx_f, kIx_s, at_0, at_1, at_2, at_3, at_4, at_5, gSl_t, gSl_l,
  List.map_cons, List.map_nil, List.cons_append, List.nil_append, List.append_nil, List.length_cons, List.length_nil, List.replicate_succ, List.replicate_zero, Nat.reduceSub, Nat.reduceAdd, List.getElem?_cons_zero, List.getElem?_cons_succ, List.getElem?_nil, List.set_cons_zero, List.set_cons_succ, List.set_nil, Nat.zero_add, Nat.add_zero,
  List.all_cons, List.all_nil, notSl, Bool.and_true, Bool.true_and, Bool.or_true, Bool.true_or, Bool.and_false, Bool.false_and, Bool.or_false, Bool.false_or, if_true, if_false, Bool.false_eq_true, reduceIte, Bool.not_true, Bool.not_false, Bool.bne_true, Bool.bne_false, decide_true, decide_false, wipeE, backE, backS, nc_0, List.length_map, List.length_append, rg_len, Nat.reduceLeDiff, fd_ix, fi_ix, fi_len, fi_it, dcs, eq_self, Int.reduceEq, Int.reduceLT, Int.reduceLE, Int.reduceAdd, Int.reduceSub, Int.reduceMul, Int.reduceToNat, gIs_c, mkD_n, mkD_s, items, and_true, true_and, and_self, bne_self_eq_false, wt, gIn_t, gIsi_i, gIsi_t, gIsi_s, gIsi_n, gIsi_b, gIsi_l, isi2_c, gEq_n, gEq_l, flatD, eqF_s, eqF_i, eqF_n, List.any_cons, List.any_nil, Rt.o, Option.bind_some, phi0_s, phi1_s, List.reverse_cons, List.reverse_nil, decide_eq_true_eq, *])
/-! ### no file is ahead of what is written -/
end Dv

set_option Elab.async false
set_option linter.all false
set_option maxRecDepth 100000
set_option maxHeartbeats 4000000
namespace Dv
open PySem PySem.Spec PyProof.Rows L2
local macro_rules | `(tactic| walk_at "ev") => `(tactic| simp only [kRet_s, ev_name, ev_c, nm_val, nm_own, nm_bor, der_d, der_nw, der_sl, sl_own, sl_bor, sl_val, ev_bin, kBin_s, kBin2_s, kBin3_s, kBin4_s, ev_b1, kOne_s, kOne2_s, kRetD_s, ev_un, kUn1_s, kUn12_s, gNeg_i, ev_test, kTst_s, ev_and, ev_or, ev_not, kAnd_t, kAnd_f, kOr_t, kOr_f, kNot_s, ev_notV, kBl_s, ev_andV, ev_orV, kAndV_t, kAndV_f, kOrV_t, kOrV_f, ev_if, kIfE_t, kIfE_f, ev_yes, ev_ch, kCh_s, kCh2_s, kCh3_s, kCh4_s, kCh5_t, kCh5_f, ev_nil, ev_cons, kC1_s, kC2_s, ev_rev, kRv_s, escs_nil, escs_cons, kX1_s, kX2_s, esc_d, esc_nw, esc_sl, escS_own, escS_val, ev_tup, kT1_s, kT2_s, ev_lst, kL1_s, kL2_s, ev_pno, ev_pzero, ev_pint, kPI_s, ev_sl, kS1_s, kS2_s, kS3_s, kS4_s, ev_lrg, kR1_s, kR2_s, ev_call, kF1_s, kF2_s, kF3_s, ders_nil, ders_cons, kD1_s, kD2_s, rt_d, rt_nw, ev_call1, kG1_s, kG2_s, kG3_s, kG4_s, ow_own, ow_bor, put_own, put_bor, ev_iseq, kI1_s, kI2_t, kI2_l, kI2_f, ev_irg1, kN1_u, kN1_i, ev_irg2, kN2_s, kN3_u, ev_lc, kV1_s, kV2_s, ev_seq, kSeq_n, kSeq_r, kSeq_b, kSeq_c, ev_skip, ev_break, ev_cont, ev_retN, ev_ret, kRt_s, ev_sif, kIf_t, kIf_f, ev_drop, kDr_s, ev_set, kSt_s, kSt2_s, ev_own, kOw_s, ev_unp, kUn_s, kUn2_s, kNx_s, bt_nm, bt_tp, sa_nil, sa_cons, ev_par, kPa_s, sp_nil, sp_own, sp_val, ev_app, kAp_s, kAp2_s, kAp3_s, kAp4_s, ev_sti, kSi_s, kSi2_s, kSi3_s, kSi4_s, kSi5_s, kSi6_s, ev_aug, kAg_s, kAg2_s, val_s, ev_for, kFo_s, loop_nil, loop_cons, kLp_s, kLp_n, kLp_c, kLp_b, kLp_r, ev_while, while_s, kWh_f, kWh_t, kWh_n, kWh_c, kWh_b, kWh_r, lc_nil, lc_cons, kLc1_s, kLc2_t, kLc2_f, kLc3_s, kLc4_s, run0_k, kE0_r, kE0_n, rtOf_d, rtOf_nw, rtOf_sl, rtS_own, run1_k, kE1_r, kE1_n, kE2_s, bor_s, gAdd_i, gAdd_l, gAdd_t, gSub_i, gMul_i, gMod_i, gDiv_i, gPow_i, gEq_i, gEq_s, gEq_b, gCmp_i, gIs_n, gInt_i, gInt_b, gMax_i, gMin_i, gAbs_i, gTup_t, gTup_l, gLen_t, gLen_l, gLen_f, gIx_t, gIx_l, gIx_f, kIx_s, at_0, at_1, at_2, at_3, at_4, at_5, gSl_t, gSl_l,
  List.map_cons, List.map_nil, List.cons_append, List.nil_append, List.append_nil, List.length_cons, List.length_nil, List.replicate_succ, List.replicate_zero, Nat.reduceSub, Nat.reduceAdd, List.getElem?_cons_zero, List.getElem?_cons_succ, List.getElem?_nil, List.set_cons_zero, List.set_cons_succ, List.set_nil, Nat.zero_add, Nat.add_zero,
  List.all_cons, List.all_nil, notSl, Bool.and_true, Bool.true_and, Bool.or_true, Bool.true_or, Bool.and_false, Bool.false_and, Bool.or_false, Bool.false_or, if_true, if_false, Bool.false_eq_true, reduceIte, Bool.not_true, Bool.not_false, Bool.bne_true, Bool.bne_false, decide_true, decide_false, wipeE, backE, backS, nc_0, List.length_map, List.length_append, rg_len, Nat.reduceLeDiff, fd_ix, fi_ix, fi_len, fi_it, dcs, eq_self, Int.reduceEq, Int.reduceLT, Int.reduceLE, Int.reduceAdd, Int.reduceSub, Int.reduceMul, Int.reduceToNat, gIs_c, mkD_n, mkD_s, items, and_true, true_and, and_self, bne_self_eq_false, wt, gIn_t, gIsi_i, gIsi_t, gIsi_s, gIsi_n, gIsi_b, gIsi_l, isi2_c, gEq_n, gEq_l, flatD, eqF_s, eqF_i, eqF_n, List.any_cons, List.any_nil, Rt.o, Option.bind_some, phi0_s, phi1_s, List.reverse_cons, List.reverse_nil, decide_eq_true_eq, *])
noncomputable section
end
/-! ### the law -/
end Dv

set_option Elab.async false
set_option linter.all false
set_option maxRecDepth 100000
set_option maxHeartbeats 4000000
namespace Dv
open PySem PySem.Spec PyProof.Rows L2
local macro_rules | `(tactic| walk_at "ev") => `(tactic| simp only [kRet_s, ev_name, ev_c, nm_val, nm_own, nm_bor, der_d, der_nw, der_sl, sl_own, sl_bor, sl_val, ev_bin, kBin_s, kBin2_s, kBin3_s, kBin4_s, ev_b1, kOne_s, kOne2_s, kRetD_s, ev_un, kUn1_s, kUn12_s, gNeg_i, ev_test, kTst_s, ev_and, ev_or, ev_not, kAnd_t, kAnd_f, kOr_t, kOr_f, kNot_s, ev_notV, kBl_s, ev_andV, ev_orV, kAndV_t, kAndV_f, kOrV_t, kOrV_f, ev_if, kIfE_t, kIfE_f, ev_yes, ev_ch, kCh_s, kCh2_s, kCh3_s, kCh4_s, kCh5_t, kCh5_f, ev_nil, ev_cons, kC1_s, kC2_s, ev_rev, kRv_s, escs_nil, escs_cons, kX1_s, kX2_s, esc_d, esc_nw, esc_sl, escS_own, escS_val, ev_tup, kT1_s, kT2_s, ev_lst, kL1_s, kL2_s, ev_pno, ev_pzero, ev_pint, kPI_s, ev_sl, kS1_s, kS2_s, kS3_s, kS4_s, ev_lrg, kR1_s, kR2_s, ev_call, kF1_s, kF2_s, kF3_s, ders_nil, ders_cons, kD1_s, kD2_s, rt_d, rt_nw, ev_call1, kG1_s, kG2_s, kG3_s, kG4_s, ow_own, ow_bor, put_own, put_bor, ev_iseq, kI1_s, kI2_t, kI2_l, kI2_f, ev_irg1, kN1_u, kN1_i, ev_irg2, kN2_s, kN3_u, ev_lc, kV1_s, kV2_s, ev_seq, kSeq_n, kSeq_r, kSeq_b, kSeq_c, ev_skip, ev_break, ev_cont, ev_retN, ev_ret, kRt_s, ev_sif, kIf_t, kIf_f, ev_drop, kDr_s, ev_set, kSt_s, kSt2_s, ev_own, kOw_s, ev_unp, kUn_s, kUn2_s, kNx_s, bt_nm, bt_tp, sa_nil, sa_cons, ev_par, kPa_s, sp_nil, sp_own, sp_val, ev_app, kAp_s, kAp2_s, kAp3_s, kAp4_s, ev_sti, kSi_s, kSi2_s, kSi3_s, kSi4_s, kSi5_s, kSi6_s, ev_aug, kAg_s, kAg2_s, val_s, ev_for, kFo_s, loop_nil, loop_cons, kLp_s, kLp_n, kLp_c, kLp_b, kLp_r, ev_while, while_s, kWh_f, kWh_t, kWh_n, kWh_c, kWh_b, kWh_r, lc_nil, lc_cons, kLc1_s, kLc2_t, kLc2_f, kLc3_s, kLc4_s, run0_k, kE0_r, kE0_n, rtOf_d, rtOf_nw, rtOf_sl, rtS_own, run1_k, kE1_r, kE1_n, kE2_s, bor_s, gAdd_i, gAdd_l, gAdd_t, gSub_i, gMul_i, gMod_i, gDiv_i, gPow_i, gEq_i, gEq_s, gEq_b, gCmp_i, gIs_n, gInt_i, gInt_b, gMax_i, gMin_i, gAbs_i, gTup_t, gTup_l, gLen_t, gLen_l, gLen_f, gIx_t, gIx_l, gIx_f, kIx_s, at_0, at_1, at_2, at_3, at_4, at_5, gSl_t, gSl_l,
  List.map_cons, List.map_nil, List.cons_append, List.nil_append, List.append_nil, List.length_cons, List.length_nil, List.replicate_succ, List.replicate_zero, Nat.reduceSub, Nat.reduceAdd, List.getElem?_cons_zero, List.getElem?_cons_succ, List.getElem?_nil, List.set_cons_zero, List.set_cons_succ, List.set_nil, Nat.zero_add, Nat.add_zero,
  List.all_cons, List.all_nil, notSl, Bool.and_true, Bool.true_and, Bool.or_true, Bool.true_or, Bool.and_false, Bool.false_and, Bool.or_false, Bool.false_or, if_true, if_false, Bool.false_eq_true, reduceIte, Bool.not_true, Bool.not_false, Bool.bne_true, Bool.bne_false, decide_true, decide_false, wipeE, backE, backS, nc_0, List.length_map, List.length_append, rg_len, Nat.reduceLeDiff, fd_ix, fi_ix, fi_len, fi_it, dcs, eq_self, Int.reduceEq, Int.reduceLT, Int.reduceLE, Int.reduceAdd, Int.reduceSub, Int.reduceMul, Int.reduceToNat, gIs_c, mkD_n, mkD_s, items, and_true, true_and, and_self, bne_self_eq_false, wt, gIn_t, gIsi_i, gIsi_t, gIsi_s, gIsi_n, gIsi_b, gIsi_l, isi2_c, gEq_n, gEq_l, flatD, eqF_s, eqF_i, eqF_n, List.any_cons, List.any_nil, Rt.o, Option.bind_some, phi0_s, phi1_s, List.reverse_cons, List.reverse_nil, decide_eq_true_eq, *])
end Dv

set_option Elab.async false
set_option linter.all false
set_option maxRecDepth 100000
set_option maxHeartbeats 4000000
namespace Dv
open PySem PySem.Spec PyProof.Rows L2
local macro_rules | `(tactic| walk_at "ev") => `(tactic| simp only [kRet_s, ev_name, ev_c, nm_val, nm_own, nm_bor, der_d, der_nw, der_sl, sl_own, sl_bor, sl_val, ev_bin, kBin_s, kBin2_s, kBin3_s, kBin4_s, ev_b1, kOne_s, kOne2_s, kRetD_s, ev_un, kUn1_s, kUn12_s, gNeg_i, ev_test, kTst_s, ev_and, ev_or, ev_not, kAnd_t, kAnd_f, kOr_t, kOr_f, kNot_s, ev_notV, kBl_s, ev_andV, ev_orV, kAndV_t, kAndV_f, kOrV_t, kOrV_f, ev_if, kIfE_t, kIfE_f, ev_yes, ev_ch, kCh_s, kCh2_s, kCh3_s, kCh4_s, kCh5_t, kCh5_f, ev_nil, ev_cons, kC1_s, kC2_s, ev_rev, kRv_s, escs_nil, escs_cons, kX1_s, kX2_s, esc_d, esc_nw, esc_sl, escS_own, escS_val, ev_tup, kT1_s, kT2_s, ev_lst, kL1_s, kL2_s, ev_pno, ev_pzero, ev_pint, kPI_s, ev_sl, kS1_s, kS2_s, kS3_s, kS4_s, ev_lrg, kR1_s, kR2_s, ev_call, kF1_s, kF2_s, kF3_s, ders_nil, ders_cons, kD1_s, kD2_s, rt_d, rt_nw, ev_call1, kG1_s, kG2_s, kG3_s, kG4_s, ow_own, ow_bor, put_own, put_bor, ev_iseq, kI1_s, kI2_t, kI2_l, kI2_f, ev_irg1, kN1_u, kN1_i, ev_irg2, kN2_s, kN3_u, ev_lc, kV1_s, kV2_s, ev_seq, kSeq_n, kSeq_r, kSeq_b, kSeq_c, ev_skip, ev_break, ev_cont, ev_retN, ev_ret, kRt_s, ev_sif, kIf_t, kIf_f, ev_drop, kDr_s, ev_set, kSt_s, kSt2_s, ev_own, kOw_s, ev_unp, kUn_s, kUn2_s, kNx_s, bt_nm, bt_tp, sa_nil, sa_cons, ev_par, kPa_s, sp_nil, sp_own, sp_val, ev_app, kAp_s, kAp2_s, kAp3_s, kAp4_s, ev_sti, kSi_s, kSi2_s, kSi3_s, kSi4_s, kSi5_s, kSi6_s, ev_aug, kAg_s, kAg2_s, val_s, ev_for, kFo_s, loop_nil, loop_cons, kLp_s, kLp_n, kLp_c, kLp_b, kLp_r, ev_while, while_s, kWh_f, kWh_t, kWh_n, kWh_c, kWh_b, kWh_r, lc_nil, lc_cons, kLc1_s, kLc2_t, kLc2_f, kLc3_s, kLc4_s, run0_k, kE0_r, kE0_n, rtOf_d, rtOf_nw, rtOf_sl, rtS_own, run1_k, kE1_r, kE1_n, kE2_s, bor_s, gAdd_i, gAdd_l, gAdd_t, gSub_i, gMul_i, gMod_i, gDiv_i, gPow_i, gEq_i, gEq_s, gEq_b, gCmp_i, gIs_n, gInt_i, gInt_b, gMax_i, gMin_i, gAbs_i, gTup_t, gTup_l, gLen_t, gLen_l, gLen_f, gIx_t, gIx_l, gIx_f, kIx_s, at_0, at_1, at_2, at_3, at_4, at_5, gSl_t, gSl_l,
  List.map_cons, List.map_nil, List.cons_append, List.nil_append, List.append_nil, List.length_cons, List.length_nil, List.replicate_succ, List.replicate_zero, Nat.reduceSub, Nat.reduceAdd, List.getElem?_cons_zero, List.getElem?_cons_succ, List.getElem?_nil, List.set_cons_zero, List.set_cons_succ, List.set_nil, Nat.zero_add, Nat.add_zero,
  List.all_cons, List.all_nil, notSl, Bool.and_true, Bool.true_and, Bool.or_true, Bool.true_or, Bool.and_false, Bool.false_and, Bool.or_false, Bool.false_or, if_true, if_false, Bool.false_eq_true, reduceIte, Bool.not_true, Bool.not_false, Bool.bne_true, Bool.bne_false, decide_true, decide_false, wipeE, backE, backS, nc_0, List.length_map, List.length_append, rg_len, Nat.reduceLeDiff, fd_ix, fi_ix, fi_len, fi_it, dcs, eq_self, Int.reduceEq, Int.reduceLT, Int.reduceLE, Int.reduceAdd, Int.reduceSub, Int.reduceMul, Int.reduceToNat, gIs_c, mkD_n, mkD_s, items, and_true, true_and, and_self, bne_self_eq_false, wt, gIn_t, gIsi_i, gIsi_t, gIsi_s, gIsi_n, gIsi_b, gIsi_l, isi2_c, gEq_n, gEq_l, flatD, eqF_s, eqF_i, eqF_n, List.any_cons, List.any_nil, Rt.o, Option.bind_some, phi0_s, phi1_s, List.reverse_cons, List.reverse_nil, decide_eq_true_eq, *])
end Dv

set_option Elab.async false
set_option linter.all false
set_option maxRecDepth 100000
set_option maxHeartbeats 2000000
/-! which of two tuples comes first -/
namespace Dv
open PySem PySem.Spec PyProof.Rows L2
section
variable {K : PySem.W.Frag} {H : Hp} {O : AP} {X : Cx}
/-- which truth value it is -/
def gIsB (neg : Bool) : D → D → Option Opd
  | .bl a, .bl b => some (.d (.bl (decide (a = b) != neg)))
  | _, _ => none
theorem opIsB : OpD X (compareOp .Is) (gIsB false) := by
  intro pins s σ' H u v uv vv Q I ru rv h
  obtain ⟨C, O, σ, ρ, x, y, z, ek, F, vx, vy, ez, q⟩ := h
  cases x <;> cases y <;> try (simp [gIsB] at ez; done)
  cases ez
  refine op_is_bl pins s σ' H u v uv vv Q I ru rv ⟨_, _, vw_bl vx, vw_bl vy, q _ H O F .refl ?_⟩
  rw [Bool.bne_false]; exact or_bl
theorem opIsNotB : OpD X (compareOp .IsNot) (gIsB true) := by
  intro pins s σ' H u v uv vv Q I ru rv h
  obtain ⟨C, O, σ, ρ, x, y, z, ek, F, vx, vy, ez, q⟩ := h
  cases x <;> cases y <;> try (simp [gIsB] at ez; done)
  cases ez
  refine op_isnot_bl pins s σ' H u v uv vv Q I ru rv ⟨_, _, vw_bl vx, vw_bl vy, q _ H O F .refl ?_⟩
  rw [Bool.bne_true]; exact or_bl
end
end Dv

set_option Elab.async false
set_option linter.all false
set_option maxRecDepth 100000
set_option maxHeartbeats 2000000
/-! objects of a class of one's own stand beside the trees -/
namespace Dv
open PySem PySem.Spec PyProof.Rows L2
section
variable {K : PySem.W.Frag} {H : Hp} {O : AP} {p cC cx : Addr} {cf cf' : List (Str × V)}
mutual
/-- an object is no tree's: its fields may change -/
theorem Rep.inS (hp : H p = some (.ins cC cx cf)) : ∀ {d : D} {v : V}, Rep K H O d v → Rep K (upd H p (.ins cC cx cf')) O d v
  | .non, v, h => by rw [Rep] at h ⊢; exact h
  | .bl b, v, h => by rw [Rep] at h ⊢; exact h
  | .int b, v, h => by rw [Rep] at h ⊢; exact h
  | .str b, v, h => by rw [Rep] at h ⊢; exact h
  | .op b, v, h => by rw [Rep] at h ⊢; exact h
  | .odd o, v, h => by
    rw [Rep] at h ⊢
    obtain ⟨a, e, q⟩ := h
    refine ⟨a, e, ?_⟩
    by_cases ha : a = p
    · subst ha
      cases o with
      | emp =>
        have q : H a = some (.dT []) := q
        rw [hp] at q; cases q
      | ins C =>
        obtain ⟨⟨dx, fs, h1⟩, r⟩ := q
        rw [hp] at h1; cases h1
        exact ⟨⟨_, _, upd_same⟩, r⟩
    · exact q.to fun u hu _ => by rw [upd_ne ha]; exact hu
  | .lst ds, v, h => by
    rw [Rep] at h ⊢
    obtain ⟨a, xs, e, ha, no, r⟩ := h
    exact ⟨a, xs, e, by rw [upd_ne (fun z => by rw [z, hp] at ha; cases ha)]; exact ha, no, Reps.inS hp r⟩
  | .frl ds, v, h => by
    rw [Rep] at h ⊢
    obtain ⟨a, xs, e, ha, r⟩ := h
    exact ⟨a, xs, e, ha.to fun o ho => by rw [upd_ne (fun z => by rw [z, hp] at ho; cases ho)]; exact ho, Reps.inS hp r⟩
  | .tup ds, v, h => by
    rw [Rep] at h ⊢
    obtain ⟨a, xs, e, ha, r⟩ := h
    refine ⟨a, xs, e, ?_, Reps.inS hp r⟩
    rcases ha with (q | ⟨o, q⟩) | q
    · exact .inl (.inl (by rw [upd_ne (fun z => by rw [z, hp] at q; cases q)]; exact q))
    · exact .inl (.inr ⟨o, by rw [upd_ne (fun z => by rw [z, hp] at q; cases q)]; exact q⟩)
    · exact .inr q
  | .dct ks ds, v, h => by
    rw [Rep] at h ⊢
    obtain ⟨a, kvs, e, ha, ne, hk, r⟩ := h
    exact ⟨a, kvs, e, by rw [upd_ne (fun z => by rw [z, hp] at ha; cases ha)]; exact ha, ne, hk, Reps.inS hp r⟩
theorem Reps.inS (hp : H p = some (.ins cC cx cf)) : ∀ {ds : List D} {vs : List V}, Reps K H O ds vs → Reps K (upd H p (.ins cC cx cf')) O ds vs
  | [], vs, h => by rw [Reps] at h ⊢; exact h
  | d :: ds, vs, h => by
    rw [Reps] at h ⊢
    obtain ⟨v, r, e, h1, h2⟩ := h
    exact ⟨v, r, e, Rep.inS hp h1, Reps.inS hp h2⟩
end
end
end Dv

set_option Elab.async false
set_option linter.all false
set_option maxRecDepth 100000
set_option maxHeartbeats 2000000
/-! texts: their methods, f-strings, numbers as texts; zip of two tuples; what is true of a value -/
namespace Dv
open PySem PySem.Spec PyProof.Rows L2 RZ
section
variable {X : Cx} {K : PySem.W.Frag} {o e : Expr} {f fo fe : FE} {pos : Pos}
inductive PJd (X : Cx) : List Expr → List FE → Prop where
  | nil : PJd X [] []
  | cons {e : Expr} {f : FE} {es : List Expr} {fs : List FE} (h : PE X e (tF X.K f)) (r : PJd X es fs) : PJd X (e :: es) (f :: fs)
/-! zip of two tuples -/
end
/-! a list, unpacked -/
/-! step by step -/
end Dv

set_option Elab.async false
set_option linter.all false
set_option maxRecDepth 100000
set_option maxHeartbeats 2000000
/-! a dict of one's own beside the slots: its address stands in a slot, what it holds is known to the frame -/
namespace Dv
open PySem PySem.Spec PyProof.Rows L2
section
variable {K : PySem.W.Frag} {H : Hp} {O : AP} {p : Addr} {kvs : List (Key × V)} {u : HO}
end
section
variable {C : Fc} {O : AP} {σ : L2.St} {ρ : Ev} {H : Hp} {p : Addr} {kvs : List (Key × V)}
/-! ### statements in our layer among others -/
variable {K : PySem.W.Frag} {g h : FS} {u : TS} {E : Ends} {ρ' : Ev}
end
section
variable {P : Program} {w : World} {K : PySem.W.Frag} {mg : Str → Option Value} {base : Heap}
end

/-! ### the dict's statements -/
section
variable {C : Fc} {O : AP} {σ : L2.St} {ρ : Ev} {H : Hp} {p : Addr} {kvs : List (Key × V)} {K : PySem.W.Frag} {E : Ends} {i j l : Nat} {L : Str} {d : D}
end

/-- {} -/
def fEmp : FE := fun ρ => some (.d (.odd .emp), ρ)
theorem d_emp {X : Cx} {pos : Pos} : PE X (.Dict [] [] pos) (tF X.K fEmp) := pe_dnewT.imp fun σ H Q h => by
  obtain ⟨C, O, ρ, o, ρ', ek, F, e, q⟩ := h
  cases e
  intro p hp
  refine q (.ref p) _ O (F.laid hp) (Fw.laid hp) ?_
  show Rep _ _ _ _ _
  rw [Rep]
  exact ⟨p, rfl, upd_same⟩
/-- t[::-1] of a tuple -/
def gRev : D → Option Opd
  | .tup ds => some (.d (.tup ds.reverse))
  | _ => none
def fRevT (f : FE) : FE := fB1 gRev f
theorem ev_emp {ρ : Ev} : fEmp ρ = some (.d (.odd .emp), ρ) := (rfl)
end Dv

set_option Elab.async false
set_option linter.all false
set_option maxRecDepth 100000
set_option maxHeartbeats 2000000
/-! t[::-1] of a tuple -/
namespace HT
open PySem PySem.Spec PyProof.Rows
section
variable {prog : Program} {w : World} {A : Around} {E : Value → Shared → Prop} {s : Shared}
theorem rev_adjust (n : Nat) : Builtin.Slice.sliceAdjust none none (-1) (n : Int) = ((n : Int) - 1, -1) := by
  unfold Builtin.Slice.sliceAdjust
  rfl
theorem rev_places (n : Nat) : Builtin.Slice.slicePlaces ((n : Int) - 1) (-1) (-1) = n := by
  unfold Builtin.Slice.slicePlaces
  have h1 : ¬ ((-1 : Int) > 0) := by omega
  simp only [h1, if_false]
  split
  · have : (((n : Int) - 1 - -1 - 1) / - -1 + 1) = (n : Int) := by
      have : (- -1 : Int) = 1 := rfl
      rw [this, Int.ediv_one]; omega
    rw [this]; omega
  · omega
theorem fm_some {f : Nat → Option Value} {g : Nat → Value} : ∀ (l : List Nat), (∀ k ∈ l, f k = some (g k)) → l.filterMap f = l.map g
  | [], _ => rfl
  | k :: l, h => by rw [List.filterMap_cons, h k (by simp), List.map_cons, fm_some l fun x hx => h x (by simp [hx])]
theorem rev_pick (xs : Array Value) : ((List.range xs.size).filterMap fun (k : Nat) => xs[((xs.size : Int) - 1 + (k : Int) * (-1)).toNat]?).toArray = xs.toList.reverse.toArray := by
  congr 1
  have e : ∀ k ∈ List.range xs.size, xs[((xs.size : Int) - 1 + (k : Int) * (-1)).toNat]? = some (xs.toList.reverse.getD k .none) := fun k hk => by
    have hk := List.mem_range.mp hk
    rw [show ((xs.size : Int) - 1 + (k : Int) * (-1)).toNat = xs.size - 1 - k by omega]
    have h1 : xs.size - 1 - k < xs.size := by omega
    have h2 : k < xs.toList.reverse.length := by rw [List.length_reverse, Array.length_toList]; exact hk
    rw [Array.getElem?_eq_getElem h1, List.getD_eq_getElem?_getD, List.getElem?_eq_getElem h2, Option.getD_some, List.getElem_reverse]
    simp
  rw [fm_some _ e]
  refine List.ext_getElem (by simp) fun i h1 h2 => ?_
  rw [List.getElem_map, List.getElem_range, List.getD_eq_getElem?_getD, List.getElem?_eq_getElem h2, Option.getD_some]
theorem sliceApplied_rev {sl : Addr} {vs : Value} {n : Nat} {Q : Int × Int × Nat → Shared → Prop} (hs : s.heap.IsSliceOf sl .none .none vs) (ps : IsPart vs (some (-1))) (h : Q ((n : Int) - 1, -1, n) s) : wpAny (model prog w) A (Builtin.Slice.sliceApplied (.ref sl) (pure (n : Int))) Q E s := by
  obtain ⟨os, hos, hcs, hds⟩ := id hs
  unfold Builtin.Slice.sliceApplied Builtin.Slice.sliceFields
  refine wpAny_bind (wpAny_bind (wpAny_field hos hds (x := .none) rfl (wpAny_bind (wpAny_field hos hds (x := .none) rfl (wpAny_bind (wpAny_field hos hds (x := vs) rfl (wpAny_pure ?_)))))))
  refine wpAny_bind (slicePart_ ps ?_)
  show wpAny _ _ (if ((-1 : Int) == 0) = true then _ else _) _ _ s
  rw [if_neg (by decide)]
  refine wpAny_bind (slicePart_ .none (wpAny_bind (slicePart_ .none (wpAny_bind (wpAny_pure ?_)))))
  show wpAny _ _ (match Builtin.Slice.sliceAdjust none none (-1) (n : Int) with | (lo, hi) => pure (lo, (-1 : Int), Builtin.Slice.slicePlaces lo hi (-1))) _ _ s
  rw [rev_adjust n]
  show wpAny _ _ (pure ((n : Int) - 1, (-1 : Int), Builtin.Slice.slicePlaces ((n : Int) - 1) (-1) (-1))) _ _ s
  rw [rev_places]
  exact wpAny_pure h
theorem getItem_tuple_rev {t sl : Addr} {items : Array Value} {vs : Value} {Q : Value → Shared → Prop} (ht : IsTup s.heap t items) (hs : s.heap.IsSliceOf sl .none .none vs) (ps : IsPart vs (some (-1)))
    (h : Q (.ref s.heap.objs.size) { s with heap := s.heap.push { cls := .type "tuple", data := .seq items.toList.reverse.toArray } }) (hsz : items.size ≤ sizeLine) : wpAny (model prog w) A (getItem (.ref t) (.ref sl)) Q E s := by
  have htake : sizeOk (.seq items.toList.reverse.toArray) := by
    show items.toList.reverse.toArray.size ≤ sizeLine
    rw [List.size_toArray, List.length_reverse, Array.length_toList]
    exact hsz
  obtain ⟨os, hos, hcs, hds⟩ := id hs
  have hTs : s.TypeIs (.ref sl) "slice" := ⟨os, hos, hcs⟩
  unfold getItem
  try with_reducible refine wpAny_holding ?_
  first | refine wpAny_bind (wpAny_pure ?_) | skip
  refine wpAny_bind (wpAny_sequenceKey ht.typeIs (by decide) ?_)
  refine wpAny_bind (wpAny_callSpecial?_slot (name := Str.ofString "__getitem__") ht.typeIs PyProof.Rows.slot_tuple_getitem
    (wpAny_call_entry PyProof.Rows.slot_tuple_getitem ht.typeIs entry_tuple_getitem ?_ (args_tuple_getitem _ _)))
  show wpAny _ _ (Builtin.Tuple.tupleItemsOf (.ref t) >>= _) _ _ s
  refine wpAny_bind (tupleItemsOf_ ht ?_)
  refine wpAny_bind (wpAny_typeOf hTs ?_)
  rw [if_pos (by decide)]
  refine wpAny_bind (sliceApplied_rev hs ps ?_)
  have hno : ¬ ((((items.size : Int) - 1) == 0 && (-1 : Int) == 1 && items.size == items.size) = true) := by
    intro q
    rw [Bool.and_eq_true, Bool.and_eq_true] at q
    exact absurd q.1.2 (by decide)
  show wpAny _ _ (if (((items.size : Int) - 1) == 0 && (-1 : Int) == 1 && items.size == items.size) = true then _ else _) _ _ s
  rw [if_neg hno, rev_pick]
  first
    | exact wpAny_bind (m := Builtin.Tuple.tupleExact _) (wpAny_newObj_type (wpAny_pure ⟨_, rfl, wpAny_pure h⟩) htake)
    | exact wpAny_bind (m := Builtin.Tuple.tupleExact _) (wpAny_newObj_type (wpAny_bind (wpAny_pure (wpAny_pure ⟨_, rfl, wpAny_pure h⟩))) htake)
    | exact wpAny_bind (wpAny_bind (m := Builtin.Tuple.tupleExact _) (wpAny_newObj_type (wpAny_pure (wpAny_pure ⟨_, rfl, wpAny_pure h⟩)) htake))
    | exact wpAny_bind (wpAny_bind (m := Builtin.Tuple.tupleExact _) (wpAny_newObj_type (wpAny_pure ⟨_, rfl, wpAny_pure h⟩) htake))
end
end HT
namespace Dv
open PySem PySem.Spec PyProof.Rows L2
def tRevT (K : PySem.W.Frag) (te : TE) : TE := fun σ H Q => te σ H fun x H1 => ∃ a xs, x = .ref a ∧ SqT K H1 a xs ∧ ∀ p, H1 p = none → Q (.ref p) (upd H1 p (.tup xs.reverse))
section
variable {X : Cx} {e : Expr}
theorem pe_revT {te : TE} {k : Nat} {p1 p2 p3 pos : Pos} (he : PE X e te) : PE X (.Subscript e (.Slice none none (some (.UnaryOp .USub (.Constant (.int 1) k p1) p2)) p3) pos) (tRevT X.K te) := by
  refine ⟨fun pins s σ H Q I h => ?_⟩
  refine Subscript_ (thn (he.run pins s σ H _ I h) fun v s1 ⟨x, H1, I1, r1, q1⟩ => ?_)
  obtain ⟨a, xs, ex, hx, q⟩ := q1
  subst ex
  cases r1
  have hst : PO X (some (.UnaryOp .USub (.Constant (.int 1) k p1) p2)) (tPart (tUn (rU fun i => .int (-i)) (tC (.int 1)))) := po_some (pe_un un_neg pe_int)
  refine wpAny_Slice (thn (po_none.run pins s1 σ H1 (fun o H2 => o = none ∧ H2 = H1) I1 ⟨rfl, rfl⟩) fun vl s2 ⟨l, H2, I2, pl, el, e2⟩ => ?_)
  subst el e2
  refine thn (po_none.run pins s2 σ H2 (fun o H3 => o = none ∧ H3 = H2) I2 ⟨rfl, rfl⟩) fun vu s3 ⟨u, H3, I3, pu, eu, e3⟩ => ?_
  subst eu e3
  refine thn (hst.run pins s3 σ H3 (fun o H4 => o = some (-1) ∧ H4 = H3) I3 ⟨1, rfl, -1, rfl, rfl, rfl⟩) fun vs s4 ⟨o, H4, I4, ps, eo, e4⟩ => ?_
  subst eo e4
  cases pl
  cases pu
  have I5 : Inv X pins σ H4 { s4 with heap := s4.heap.push { cls := .type "slice", data := .fields #[.none, .none, vs] } } := I4.kept (t' := s4.toks) fun b ob q => Heap.get?_push_of_some _ q
  obtain ⟨its, r, ht, hz⟩ := I5.tuple hx
  have hlen := r.length
  show wpAny (model X.prog X.w) X.A (subscriptTail e (.Slice none none (some (.UnaryOp .USub (.Constant (.int 1) k p1) p2)) p3) (.ref a) (.ref s4.heap.objs.size)) (EP X pins σ Q) X.xe { s4 with heap := s4.heap.push { cls := .type "slice", data := .fields #[.none, .none, vs] } }
  refine tail_any (ops := [.ref a, .ref s4.heap.objs.size]) ht.typeIs PyProof.Rows.slot_tuple_getitem.lookup ?_ (by with_unfolding_all rfl)
  refine HT.getItem_tuple_rev ht (Heap.IsSliceOf.new _ .none .none vs) ps ?_ (by rw [List.size_toArray]; omega)
  refine ⟨.ref _, _, I5.laid (t' := s4.toks) (o := .tup xs.reverse) (fun b ob q => Heap.get?_push_of_some _ q) (Nat.le_refl _) ?_, rfl, q _ (I5.hok.fresh (Nat.le_refl _))⟩
  exact ⟨by rw [List.length_reverse]; exact hz, _, r.reverse, ⟨_, Heap.get?_push_size _ rfl, rfl, 0, rfl⟩⟩
theorem d_revT {f : FE} {k : Nat} {p1 p2 p3 pos : Pos} (he : PE X e (tF X.K f)) : PE X (.Subscript e (.Slice none none (some (.UnaryOp .USub (.Constant (.int 1) k p1) p2)) p3) pos) (tF X.K (fRevT f)) := (pe_revT he).imp fun σ H Q h => by
  obtain ⟨C, O, ρ, o, ρ', ek, F, e, q⟩ := h
  unfold fRevT fB1 at e
  cases ea : f ρ with
  | none => rw [ea] at e; cases e
  | some p =>
    obtain ⟨o1, ρ1⟩ := p
    rw [ea, Option.bind_some] at e
    cases ed : der ρ1 o1 with
    | none => simp [ed] at e
    | some x =>
      simp only [ed, Option.bind_some] at e
      cases x with
      | tup ds =>
        cases e
        refine ⟨C, O, ρ, o1, ρ', ek, F, ea, fun v H1 O1 F1 w r => ?_⟩
        obtain ⟨a, xs, rfl, h1, rr⟩ := vw_tup (r.w.vw F1 ed)
        refine ⟨a, xs, rfl, by rw [← ek]; exact h1, fun p hp => ?_⟩
        refine q (.ref p) _ O1 (F1.laid hp) (w.trans (Fw.laid hp)) ?_
        show Rep _ _ _ _ _
        rw [Rep]
        have l1 := rr.len
        refine ⟨p, xs.reverse, rfl, .inl (.inl upd_same), Reps.of (by simp [l1]) fun i d v e1 e2 => ?_⟩
        have hi : i < ds.length := by
          have := (List.getElem?_eq_some_iff.mp e1).1
          simpa using this
        rw [List.getElem?_reverse (by omega)] at e1 e2
        rw [← l1] at e2
        obtain ⟨u, q1, r1⟩ := rr.get e1
        rw [e2] at q1
        cases q1
        exact r1.keep (fun b o e _ => updK hp b o e) F1.mu fun _ h => h
      | _ => cases e
end
end Dv

set_option Elab.async false
set_option linter.all false
set_option maxRecDepth 100000
set_option maxHeartbeats 2000000
/-! C(..): a new instance of a class of one's own, as a thing that is no tree -/
namespace Dv
open PySem PySem.Spec PyProof.Rows L2
/-- what isinstance asks of the class -/
structure InsF (K : PySem.W.Frag) (C : Addr) : Prop where
  cl : Cls K C
  fc : PySem.W.findIn K (.ref C) "__class__" = some (some (.builtin "object.__class__"))
  sp : PySem.W.specialIn K (.builtin "object.__class__") "__get__" = some (some (.builtin "getset_descriptor.__get__"))
  tk : PySem.W.takesIn K (.builtin "object.__class__") = some true
  mr : PySem.W.mroIn K C (.type "object") = some true
  kd : ∀ n ∈ kinds0, PySem.W.kitOne K (.ref C) (.type n) = some false
/-- an __init__ that lays fields alone, of arguments that are ok -/
def spNew (K : PySem.W.Frag) (C : Addr) (ok : List D → Prop) : Sp := fun vs H Q _ => ∃ (p dx : Addr) (rest : List V) (ds : List D), vs = .ref p :: rest ∧ H p = some (.ins C dx []) ∧ ok ds ∧ Reps K H (fun _ => False) ds rest ∧
  ∀ H' fs, (∀ b o, b ≠ p → H b = some o → H' b = some o) → H' p = some (.ins C dx fs) → Q .non H'
open Classical in
noncomputable def fNew (C : Addr) (ok : List D → Prop) (fa : FA) : FE := fun ρ => (fa ρ).bind fun p => (ders p.2 p.1).bind fun ds => if ok ds ∧ noLs ds = true then some (.d (.odd (.ins C)), p.2) else none
section
variable {X : Cx} {C f : Addr} {fd : FuncData} {ps : List Str} {k : Nat} {ok : List D → Prop} {x : Str} {e : Expr} {es : List Expr} {fa : FA} {p pos : Pos}
theorem d_make (M : Mk X.K C f) (I : InsF X.K C) (G : FnOk X.prog X.w X.K X.mg X.base CX0 k f fd ps (spNew X.K C ok)) (hr : Room (k + 1) X.A) (hm : X.mg x = some (.ref C)) (hb : Binds X.K fd ps []) (ha : PA X (e :: es) (tAr X.K fa)) (hg : Gl X x := by rfl)
    (hdb : (x == ("__debug__" : Str)) = false := by decide) (he : starEach (e :: es) X.env = (false, eval e X.env) :: starEach es X.env := by rfl) (hpl : (backTo pos (starEach es X.env)).any (·.1) = false := by rfl) :
    PE X (.Call (.Name x p) (e :: es) [] pos) (tF X.K (fNew C ok fa)) := (pe_make M G hr hg hm hb .nil pass0 ha hdb he hpl).imp fun σ H Q h => by
  obtain ⟨C0, O, ρ, o, ρ', ek, F, e, q⟩ := h
  unfold fNew at e
  cases ea : fa ρ with
  | none => rw [ea] at e; cases e
  | some pr =>
    obtain ⟨os, ρ1⟩ := pr
    rw [ea, Option.bind_some] at e
    cases eb : ders ρ1 os with
    | none => simp [eb] at e
    | some ds =>
      simp only [eb, Option.bind_some] at e
      split at e
      · rename_i hc
        obtain ⟨hok, hn⟩ := hc
        cases e
        refine ⟨C0, O, ρ, os, ρ', ek, F, ea, fun vs H1 O1 F1 w1 r1 p dx np ndx nex => ?_⟩
        have r0 : Reps X.K H1 (fun _ => False) ds vs := by rw [← ek]; exact (ders_lent F1 r1 eb).any hn
        have k0 : ∀ b o, H1 b = some o → upd (upd H1 dx (.own p)) p (.ins C dx []) b = some o := fun b o e => by rw [upd_ne (ne_of_none e np), upd_ne (ne_of_none e ndx)]; exact e
        refine ⟨p, dx, vs ++ [], ds, rfl, upd_same, hok, ?_, fun H' fs kp hp => ⟨rfl, ?_⟩⟩
        · rw [List.append_nil]
          exact r0.keep (O := fun _ => False) (fun b o e _ => k0 b o e) (fun _ h => h.elim) fun _ h => h
        · have k1 : ∀ b o, H1 b = some o → H' b = some o := fun b o e => kp b o (ne_of_none e np) (k0 b o e)
          refine q (.ref p) H' O1 (F1.kept k1) (w1.trans ⟨fun b o e _ => k1 b o e, fun _ h => h, fun _ h => h, fun _ h => .inl h⟩) ?_
          show Rep _ _ _ _ _
          rw [Rep]
          refine ⟨p, rfl, ⟨dx, fs, hp⟩, ?_⟩
          rw [ek]
          exact ⟨I.cl, I.fc, I.sp, I.tk, I.mr, I.kd⟩
      · cases e
end
end Dv

set_option Elab.async false
set_option linter.all false
set_option maxRecDepth 100000
set_option maxHeartbeats 4000000
namespace Dv
open PySem PySem.Spec PyProof.Rows L2
local macro_rules | `(tactic| walk_at "ev") => `(tactic| simp only [kRet_s, ev_name, ev_c, nm_val, nm_own, nm_bor, der_d, der_nw, der_sl, sl_own, sl_bor, sl_val, ev_bin, kBin_s, kBin2_s, kBin3_s, kBin4_s, ev_b1, kOne_s, kOne2_s, kRetD_s, ev_un, kUn1_s, kUn12_s, gNeg_i, ev_test, kTst_s, ev_and, ev_or, ev_not, kAnd_t, kAnd_f, kOr_t, kOr_f, kNot_s, ev_notV, kBl_s, ev_andV, ev_orV, kAndV_t, kAndV_f, kOrV_t, kOrV_f, ev_if, kIfE_t, kIfE_f, ev_yes, ev_ch, kCh_s, kCh2_s, kCh3_s, kCh4_s, kCh5_t, kCh5_f, ev_nil, ev_cons, kC1_s, kC2_s, ev_rev, kRv_s, escs_nil, escs_cons, kX1_s, kX2_s, esc_d, esc_nw, esc_sl, escS_own, escS_val, ev_tup, kT1_s, kT2_s, ev_lst, kL1_s, kL2_s, ev_pno, ev_pzero, ev_pint, kPI_s, ev_sl, kS1_s, kS2_s, kS3_s, kS4_s, ev_lrg, kR1_s, kR2_s, ev_call, kF1_s, kF2_s, kF3_s, ders_nil, ders_cons, kD1_s, kD2_s, rt_d, rt_nw, ev_call1, kG1_s, kG2_s, kG3_s, kG4_s, ow_own, ow_bor, put_own, put_bor, ev_iseq, kI1_s, kI2_t, kI2_l, kI2_f, ev_irg1, kN1_u, kN1_i, ev_irg2, kN2_s, kN3_u, ev_lc, kV1_s, kV2_s, ev_seq, kSeq_n, kSeq_r, kSeq_b, kSeq_c, ev_skip, ev_break, ev_cont, ev_retN, ev_ret, kRt_s, ev_sif, kIf_t, kIf_f, ev_drop, kDr_s, ev_set, kSt_s, kSt2_s, ev_own, kOw_s, ev_unp, kUn_s, kUn2_s, kNx_s, bt_nm, bt_tp, sa_nil, sa_cons, ev_par, kPa_s, sp_nil, sp_own, sp_val, ev_app, kAp_s, kAp2_s, kAp3_s, kAp4_s, ev_sti, kSi_s, kSi2_s, kSi3_s, kSi4_s, kSi5_s, kSi6_s, ev_aug, kAg_s, kAg2_s, val_s, ev_for, kFo_s, loop_nil, loop_cons, kLp_s, kLp_n, kLp_c, kLp_b, kLp_r, ev_while, while_s, kWh_f, kWh_t, kWh_n, kWh_c, kWh_b, kWh_r, lc_nil, lc_cons, kLc1_s, kLc2_t, kLc2_f, kLc3_s, kLc4_s, run0_k, kE0_r, kE0_n, rtOf_d, rtOf_nw, rtOf_sl, rtS_own, run1_k, kE1_r, kE1_n, kE2_s, bor_s, gAdd_i, gAdd_l, gAdd_t, gSub_i, gMul_i, gMod_i, gDiv_i, gPow_i, gEq_i, gEq_s, gEq_b, gCmp_i, gIs_n, gInt_i, gInt_b, gMax_i, gMin_i, gAbs_i, gTup_t, gTup_l, gLen_t, gLen_l, gLen_f, gIx_t, gIx_l, gIx_f, kIx_s, at_0, at_1, at_2, at_3, at_4, at_5, gSl_t, gSl_l,
  List.map_cons, List.map_nil, List.cons_append, List.nil_append, List.append_nil, List.length_cons, List.length_nil, List.replicate_succ, List.replicate_zero, Nat.reduceSub, Nat.reduceAdd, List.getElem?_cons_zero, List.getElem?_cons_succ, List.getElem?_nil, List.set_cons_zero, List.set_cons_succ, List.set_nil, Nat.zero_add, Nat.add_zero,
  List.all_cons, List.all_nil, notSl, Bool.and_true, Bool.true_and, Bool.or_true, Bool.true_or, Bool.and_false, Bool.false_and, Bool.or_false, Bool.false_or, if_true, if_false, Bool.false_eq_true, reduceIte, Bool.not_true, Bool.not_false, Bool.bne_true, Bool.bne_false, decide_true, decide_false, wipeE, backE, backS, nc_0, List.length_map, List.length_append, rg_len, Nat.reduceLeDiff, fd_ix, fi_ix, fi_len, fi_it, dcs, eq_self, Int.reduceEq, Int.reduceLT, Int.reduceLE, Int.reduceAdd, Int.reduceSub, Int.reduceMul, Int.reduceToNat, gIs_c, mkD_n, mkD_s, items, and_true, true_and, and_self, bne_self_eq_false, wt, gIn_t, gIsi_i, gIsi_t, gIsi_s, gIsi_n, gIsi_b, gIsi_l, isi2_c, gEq_n, gEq_l, ev_dk, kDk1_s, kDk2_s, kDk3_s, flatD, eqF_s, eqF_i, eqF_n, List.any_cons, List.any_nil, Rt.o, Option.bind_some, phi0_s, phi1_s, List.reverse_cons, List.reverse_nil, decide_eq_true_eq, kDk1_s, ev_izp, kZ1_s, kZ2_s, *])
/-! the same of signs in a list -/
end Dv

set_option Elab.async false
set_option linter.all false
set_option maxRecDepth 100000
set_option maxHeartbeats 4000000
namespace Dv
open PySem PySem.Spec PyProof.Rows L2
noncomputable section
/-- what a live reader is asked here: a file that its format reads -/
def LiveOk (ds : List D) : Prop := ∃ (f : Frm) (xs : List Int), ds = [f.d, fileD xs] ∧ f.Ok ∧ (∀ x ∈ xs, 0 ≤ x ∧ x < f.base) ∧ xs.length ≤ 900000 ∧ xs ≠ [] ∧ ∃ t, beh f (behM f 0) xs = some t ∧ endsW f t = true
open Classical in
def phi__law_live_told : F0 := fun ds => if h : LiveOk ds then some (.d (.tup [.tup ((contA h.choose (behM h.choose 0) h.choose_spec.choose).map ctD), .str "done"])) else none
-- slots of _law_file_right: bag form_here row told_here blind bad least other_row k
-- slots of law: script at bag turn form_here content_here row
end
end Dv

set_option Elab.async false
set_option linter.all false
set_option maxRecDepth 100000
set_option maxHeartbeats 8000000
namespace Dv
open PySem PySem.Spec PyProof.Rows L2 StX
/-! a live reader's object -/
def rF (v0 : V) (l1 l2 : Addr) : List (Str × V) := putF "_along" (.ref l2) (putF "_signs" (.ref l1) (putF "_form" v0 []))
def O0 : AP := fun _ => False
theorem ol0 {H : Hp} : OL O0 H := fun _ h => h.elim
theorem _root_.Dv.Rep.on {K : PySem.W.Frag} {H H' : Hp} {d : D} {v : V} (r : Rep K H O0 d v) (k : ∀ b o, H b = some o → H' b = some o) : Rep K H' O0 d v := r.keep (fun b o h _ => k b o h) ol0 fun _ h => h
theorem _root_.Dv.Reps.on {K : PySem.W.Frag} {H H' : Hp} {ds : List D} {vs : List V} (r : Reps K H O0 ds vs) (k : ∀ b o, H b = some o → H' b = some o) : Reps K H' O0 ds vs := r.keep (fun b o h _ => k b o h) ol0 fun _ h => h
/-- a list that is changed leaves a tree without lists -/
theorem _root_.Dv.Rep.lst {K : PySem.W.Frag} {H : Hp} {l : Addr} {xs ys : List V} {d : D} {v : V} (r : Rep K H O0 d v) (n : noL d = true) (h : H l = some (.lst xs)) : Rep K (upd H l (.lst ys)) O0 d v :=
  ((r.any (O' := fun a => a = l) n).keep (fun b o e nb => by rw [upd_ne nb]; exact e) (fun a ha => ⟨xs, by rw [ha]; exact h⟩) fun _ h => h).any n
theorem _root_.Dv.Reps.lst {K : PySem.W.Frag} {H : Hp} {l : Addr} {xs ys : List V} {ds : List D} {vs : List V} (r : Reps K H O0 ds vs) (n : noLs ds = true) (h : H l = some (.lst xs)) : Reps K (upd H l (.lst ys)) O0 ds vs :=
  ((r.any (O' := fun a => a = l) n).keep (fun b o e nb => by rw [upd_ne nb]; exact e) (fun a ha => ⟨xs, by rw [ha]; exact h⟩) fun _ h => h).any n
structure RdO (K : PySem.W.Frag) (C p dx l1 l2 : Addr) (f : Frm) (v0 : V) (ws : List V) (xs : List Int) (H : Hp) : Prop where
  hp : H p = some (.ins C dx (rF v0 l1 l2))
  h1 : H l1 = some (.lst (xs.map V.int))
  h2 : H l2 = some (.lst ws)
  ne : l1 ≠ l2
  rf : Rep K H O0 f.d v0
  ra : Reps K H O0 ((alongF f (behM f 0) xs).map optD) ws
section
variable {K : PySem.W.Frag} {C p dx l1 l2 : Addr} {f : Frm} {v0 : V} {ws : List V} {xs : List Int} {H H' : Hp}
theorem RdO.mono (r : RdO K C p dx l1 l2 f v0 ws xs H) (k : ∀ b o, H b = some o → H' b = some o) : RdO K C p dx l1 l2 f v0 ws xs H' :=
  ⟨k _ _ r.hp, k _ _ r.h1, k _ _ r.h2, r.ne, r.rf.on k, r.ra.on k⟩
theorem RdO.ap (r : RdO K C p dx l1 l2 f v0 ws xs H) : p ≠ l1 ∧ p ≠ l2 :=
  ⟨fun e => (by have := r.h1; rw [← e, r.hp] at this; cases this), fun e => (by have := r.h2; rw [← e, r.hp] at this; cases this)⟩
end
/-- what the class at C must have -/
structure Rcl (K : PySem.W.Frag) (C : Addr) : Prop where
  cl : Cls K C
  nf : NoAttr K C "_form"
  ns : NoAttr K C "_signs"
  na : NoAttr K C "_along"
def spRI (K : PySem.W.Frag) (C : Addr) : Sp := fun vs H Q _ => ∃ (p dx : Addr) (v0 : V) (f : Frm), vs = [.ref p, v0] ∧ H p = some (.ins C dx []) ∧ Rep K H O0 f.d v0 ∧ f.Ok ∧
  ∀ H' l1 l2 ws, (∀ b o, b ≠ p → H b = some o → H' b = some o) → H l1 = none → H l2 = none → RdO K C p dx l1 l2 f v0 ws [] H' → Q .non H'
end Dv

set_option Elab.async false
set_option linter.all false
set_option maxRecDepth 100000
set_option maxHeartbeats 4000000
namespace Dv
open PySem PySem.Spec PyProof.Rows L2
noncomputable section
-- slots of _law_bent_file: bag base signs_here odd spot some
def g__law_bent_file : FS :=
  (sSeq (sSet 3 (fBin gIx (fLst (aCons (fC .non) (aCons (fC (.bl true)) (aCons (fC (.bl false)) (aCons (fC (.str "1")) (aCons (fTup (aCons (fC (.int 1)) aNil)) (aCons (fLst (aCons (fC (.int 2)) aNil)) (aCons fEmp (aCons (fUn gNeg (fC (.int 1))) (aCons (fName 1) (aCons (fBin gAdd (fName 1) (fC (.int 7))) (aCons (fC (.int 0)) (aCons (fBin gSub (fName 1) (fC (.int 1))) aNil))))))))))))) (fCall1 phi__law_grab (aCons (fName 0) (aCons (fC (.int 12)) aNil)))))
    (sSeq (sSet 4 (fCall1 phi__law_grab (aCons (fName 0) (aCons (fBin gAdd (fB1 gLen (fName 2)) (fC (.int 1))) aNil))))
    (sSeq (sSet 5 (fLst (aCons (fBin gAdd (fBin gAdd (fSl (fName 2) pNo (pInt (fName 4))) (fTup (aCons (fName 3) aNil))) (fSl (fName 2) (pInt (fName 4)) pNo)) (aCons (fBin gAdd (fBin gAdd (fSl (fName 2) pNo (pInt (fName 4))) (fTup (aCons (fName 3) aNil))) (fSl (fName 2) (pInt (fBin gAdd (fName 4) (fC (.int 1)))) pNo)) aNil))))
    (sSeq (sSet 5 (fBin gAdd (fName 5) (fLst (aCons (fB1 gList (fName 2)) (aCons (fC .non) (aCons (fC (.int 0)) (aCons (fC (.str "")) (aCons (fC (.str "0 1")) (aCons fEmp (aCons (fC (.bl true)) (aCons (fTup (aCons (fName 2) aNil)) (aCons (fLst (aCons (fName 2) aNil)) (aCons (fName 2) aNil)))))))))))))
    (sRet (fBin gIx (fName 5) (fCall1 phi__law_grab (aCons (fName 0) (aCons (fB1 gLen (fName 5)) aNil)))))))))
def phi__law_bent_file : F1 := phi1 3 6 g__law_bent_file
theorem e__law_bent_file : ∀ ds r, phi__law_bent_file ds = some r → ds.length = 3 ∧ run1 6 g__law_bent_file ds = some r := fun _ _ h => phi_run1 h
theorem n__law_bent_file : ∀ ds r, phi__law_bent_file ds = some r → ds.length = 3 := fun ds r h => (e__law_bent_file ds r h).1
-- slots of _law_bent_form: bag form_here base head_here wide top rows rest odd spot at word uses_here use_here last bads tags_here rests other_rest some near
def g__law_bent_form : FS :=
  (sSeq (sUnp (.tp [2, 3, 4, 5, 6, 7]) (fName 1))
    (sSeq (sSet 8 (fBin gIx (fLst (aCons (fC .non) (aCons (fC (.bl true)) (aCons (fC (.bl false)) (aCons (fC (.str "1")) (aCons (fTup (aCons (fC (.int 1)) aNil)) (aCons (fLst (aCons (fC (.int 2)) aNil)) (aCons fEmp (aCons (fUn gNeg (fC (.int 1))) (aCons (fName 2) (aCons (fBin gAdd (fName 2) (fC (.int 1))) aNil))))))))))) (fCall1 phi__law_grab (aCons (fName 0) (aCons (fC (.int 10)) aNil)))))
    (sSeq (sPar [(9, false), (10, false)] (aCons (fCall1 phi__law_grab (aCons (fName 0) (aCons (fBin gAdd (fB1 gLen (fName 3)) (fC (.int 1))) aNil))) (aCons (fCall1 phi__law_grab (aCons (fName 0) (aCons (fBin gAdd (fB1 gLen (fName 6)) (fC (.int 1))) aNil))) aNil)))
    (sSeq (sSet 11 (fBin gIx (fLst (aCons (fC (.str "one")) (aCons (fC (.str "high")) (aCons (fC (.str "low")) (aCons (fC (.str "One")) (aCons (fC (.str "two")) (aCons (fC (.str "hig")) (aCons (fC (.str "")) (aCons (fC .non) (aCons (fC (.int 1)) (aCons (fLst (aCons (fC (.str "one")) aNil)) (aCons (fC (.str "keep")) aNil)))))))))))) (fCall1 phi__law_grab (aCons (fName 0) (aCons (fC (.int 11)) aNil)))))
    (sSeq (sSet 12 (fLst (aCons (fC (.str "keep")) (aCons (fC (.str "check")) (aCons (fC (.str "skip")) (aCons (fC (.str "end")) (aCons (fC (.str "stop")) (aCons (fC (.str "ends")) (aCons (fC (.str "kee")) (aCons (fC (.str "")) (aCons (fC .non) (aCons (fC (.int 3)) (aCons (fLst (aCons (fC (.str "end")) aNil)) aNil)))))))))))))
    (sSeq (sSet 12 (fBin gAdd (fName 12) (fLst (aCons (fC (.str "Stop")) (aCons (fC (.str "refuse")) (aCons (fC (.str "one")) aNil))))))
    (sSeq (sSet 13 (fBin gIx (fName 12) (fCall1 phi__law_grab (aCons (fName 0) (aCons (fC (.int 14)) aNil)))))
    (sSeq (sSet 14 (fIf (fTest (fBin (gCmp fun i j => decide (j < i)) (fName 10) (fC (.int 0)))) (fBin gIx (fBin gIx (fName 6) (fBin gSub (fName 10) (fC (.int 1)))) (fC (.int 0))) (fUn gNeg (fC (.int 1)))))
    (sSeq (sSet 15 (fLst (aCons (fTup (aCons (fBin gAdd (fName 14) (fC (.int 1))) (aCons (fName 13) aNil))) (aCons (fTup (aCons (fName 14) (aCons (fC (.str "keep")) aNil))) (aCons (fTup (aCons (fName 8) (aCons (fC (.str "skip")) aNil))) (aCons (fLst (aCons (fBin gAdd (fName 14) (fC (.int 1))) (aCons (fC (.str "keep")) aNil))) aNil))))))
    (sSeq (sSet 15 (fBin gAdd (fName 15) (fLst (aCons (fTup (aCons (fBin gAdd (fName 14) (fC (.int 1))) aNil)) (aCons (fName 8) (aCons (fTup (aCons (fBin gAdd (fName 14) (fC (.int 1))) (aCons (fC (.str "keep")) (aCons (fC (.int 0)) aNil)))) aNil))))))
    (sSeq (sSet 16 (fBin gAdd (fBin gAdd (fSl (fName 6) pNo (pInt (fName 10))) (fTup (aCons (fBin gIx (fName 15) (fCall1 phi__law_grab (aCons (fName 0) (aCons (fC (.int 7)) aNil)))) aNil))) (fSl (fName 6) (pInt (fName 10)) pNo)))
    (sSeq (sSet 17 (fLst (aCons (fC (.str "skip")) (aCons (fC (.str "refuse")) (aCons (fC (.str "skips")) (aCons (fC (.str "refus")) (aCons (fC (.str "keep")) (aCons (fC (.str "")) (aCons (fC .non) (aCons (fC (.int 0)) (aCons (fC (.str "Skip")) (aCons (fLst (aCons (fC (.str "skip")) aNil)) (aCons fEmp aNil)))))))))))))
    (sSeq (sSet 17 (fBin gAdd (fName 17) (fLst (aCons (fTup (aCons (fC (.str "skip")) aNil)) (aCons (fC (.str "end")) (aCons (fC (.str "stop")) (aCons (fC (.str "check")) aNil)))))))
    (sSeq (sSet 18 (fBin gIx (fName 17) (fCall1 phi__law_grab (aCons (fName 0) (aCons (fC (.int 15)) aNil)))))
    (sSeq (sOwn 19 (fLst (aCons (fTup (aCons (fName 8) (aCons (fName 3) (aCons (fName 4) (aCons (fName 5) (aCons (fName 6) (aCons (fName 7) aNil))))))) (aCons (fBin gAdd (fTup (aCons (fBin gIx (fLst (aCons (fC (.int 1)) (aCons (fC (.int 0)) (aCons (fC (.int 2)) (aCons (fC (.int 257)) (aCons (fC (.int 256)) aNil)))))) (fCall1 phi__law_grab (aCons (fName 0) (aCons (fC (.int 5)) aNil)))) aNil)) (fSl (fName 1) (pInt (fC (.int 1))) pNo)) aNil))))
    (sSeq (sApp 19 (fTup (aCons (fName 2) (aCons (fBin gAdd (fBin gAdd (fSl (fName 3) pNo (pInt (fName 9))) (fTup (aCons (fName 8) aNil))) (fSl (fName 3) (pInt (fName 9)) pNo)) (aCons (fName 4) (aCons (fName 5) (aCons (fName 6) (aCons (fName 7) aNil))))))))
    (sSeq (sApp 19 (fTup (aCons (fName 2) (aCons (fBin gIx (fLst (aCons (fB1 gList (fName 3)) (aCons (fC .non) (aCons (fC (.int 0)) (aCons (fC (.str "")) (aCons fEmp aNil)))))) (fCall1 phi__law_grab (aCons (fName 0) (aCons (fC (.int 5)) aNil)))) (aCons (fName 4) (aCons (fName 5) (aCons (fName 6) (aCons (fName 7) aNil))))))))
    (sSeq (sOwn 19 (fBin gAdd (fName 19) (fLst (aCons (fTup (aCons (fName 2) (aCons (fName 3) (aCons (fName 11) (aCons (fName 5) (aCons (fName 6) (aCons (fName 7) aNil))))))) (aCons (fTup (aCons (fName 2) (aCons (fName 3) (aCons (fName 4) (aCons (fName 8) (aCons (fName 6) (aCons (fName 7) aNil))))))) aNil)))))
    (sSeq (sOwn 19 (fBin gAdd (fName 19) (fLst (aCons (fTup (aCons (fName 2) (aCons (fName 3) (aCons (fName 4) (aCons (fName 5) (aCons (fName 16) (aCons (fName 7) aNil))))))) (aCons (fTup (aCons (fName 2) (aCons (fName 3) (aCons (fName 4) (aCons (fName 5) (aCons (fName 16) (aCons (fName 7) aNil))))))) aNil)))))
    (sSeq (sSet 20 (fBin gAdd (fBin gAdd (fSl (fName 6) pNo (pInt (fName 10))) (fRevT (fSl (fName 6) (pInt (fName 10)) (pInt (fBin gAdd (fName 10) (fC (.int 2))))))) (fSl (fName 6) (pInt (fBin gAdd (fName 10) (fC (.int 2)))) pNo)))
    (sSeq (sOwn 19 (fBin gAdd (fName 19) (fLst (aCons (fTup (aCons (fName 2) (aCons (fName 3) (aCons (fName 4) (aCons (fName 5) (aCons (fName 20) (aCons (fName 7) aNil))))))) (aCons (fTup (aCons (fName 2) (aCons (fName 3) (aCons (fName 4) (aCons (fName 5) (aCons (fName 20) (aCons (fName 7) aNil))))))) aNil)))))
    (sSeq (sOwn 19 (fBin gAdd (fName 19) (fLst (aCons (fTup (aCons (fName 2) (aCons (fName 3) (aCons (fName 4) (aCons (fName 5) (aCons (fRevT (fName 6)) (aCons (fName 7) aNil))))))) (aCons (fTup (aCons (fName 2) (aCons (fName 3) (aCons (fName 4) (aCons (fName 5) (aCons (fB1 gList (fName 6)) (aCons (fName 7) aNil))))))) aNil)))))
    (sSeq (sApp 19 (fTup (aCons (fName 2) (aCons (fName 3) (aCons (fName 4) (aCons (fName 5) (aCons (fBin gIx (fLst (aCons (fC .non) (aCons (fC (.int 0)) (aCons fEmp (aCons (fC (.str "")) (aCons (fTup (aCons (fC (.str "keep")) aNil)) aNil)))))) (fCall1 phi__law_grab (aCons (fName 0) (aCons (fC (.int 5)) aNil)))) (aCons (fName 7) aNil))))))))
    (sSeq (sApp 19 (fTup (aCons (fName 2) (aCons (fName 3) (aCons (fName 4) (aCons (fName 5) (aCons (fName 6) (aCons (fName 18) aNil))))))))
    (sSeq (sOwn 19 (fBin gAdd (fName 19) (fLst (aCons (fSl (fName 1) pNo (pInt (fC (.int 5)))) (aCons (fBin gAdd (fName 1) (fTup (aCons (fC (.int 0)) aNil))) (aCons (fB1 gList (fName 1)) (aCons (fTup aNil) (aCons (fC .non) (aCons (fC (.int 0)) (aCons (fC (.str "")) (aCons fEmp (aCons (fC (.bl true)) aNil))))))))))))
    (sSeq (sOwn 19 (fBin gAdd (fName 19) (fLst (aCons (fTup (aCons (fName 1) aNil)) (aCons (fSl (fName 1) (pInt (fC (.int 1))) pNo) aNil)))))
    (sRet (fBin gIx (fName 19) (fCall1 phi__law_grab (aCons (fName 0) (aCons (fB1 gLen (fName 19)) aNil)))))))))))))))))))))))))))))))
def phi__law_bent_form : F1 := phi1 2 21 g__law_bent_form
theorem e__law_bent_form : ∀ ds r, phi__law_bent_form ds = some r → ds.length = 2 ∧ run1 21 g__law_bent_form ds = some r := fun _ _ h => phi_run1 h
theorem n__law_bent_form : ∀ ds r, phi__law_bent_form ds = some r → ds.length = 2 := fun ds r h => (e__law_bent_form ds r h).1
-- slots of _law_is_sign: base thing
def g__law_is_sign : FS :=
  (sRet (fAndV (fBin gIsi (fName 1) (fC (.op (.ty "int")))) (fAndV (fNotV (fBin gIsi (fName 1) (fC (.op (.ty "bool"))))) (fAndV (fBin (gCmp fun i j => decide (j ≤ i)) (fName 1) (fC (.int 0))) (fBin (gCmp fun i j => decide (i < j)) (fName 1) (fName 0))))))
def phi__law_is_sign : F0 := phi0 2 2 g__law_is_sign
theorem e__law_is_sign : ∀ ds r, phi__law_is_sign ds = some r → ds.length = 2 ∧ run0 2 g__law_is_sign ds = some r := fun _ _ h => phi_run h
theorem n__law_is_sign : ∀ ds r, phi__law_is_sign ds = some r → ds.length = 2 := fun ds r h => (e__law_is_sign ds r h).1
-- slots of _law_is_form: thing base head_here wide top rows rest before row mark
def g__law_is_form : FS :=
  (sSeq (sIf (fOr (fNot (fTest (fBin gIsi (fName 0) (fC (.op (.ty "tuple")))))) (fTest (fBin (gEq true) (fB1 gLen (fName 0)) (fC (.int 6))))) (sRet (fC (.bl false))) sSkip)
    (sSeq (sUnp (.tp [1, 2, 3, 4, 5, 6]) (fName 0))
    (sSeq (sIf (fOr (fNot (fTest (fCall phi__law_is_sign (aCons (fC (.int 257)) (aCons (fName 1) aNil))))) (fOr (fTest (fBin (gCmp fun i j => decide (i < j)) (fName 1) (fC (.int 2)))) (fOr (fNot (fTest (fBin gIsi (fName 2) (fC (.op (.ty "tuple")))))) (fNot (fTest (fBin gIsi (fName 5) (fC (.op (.ty "tuple"))))))))) (sRet (fC (.bl false))) sSkip)
    (sSeq (sIf (fTest (fBin (gEq true) (fLc (iSeq (fName 2)) (.nm 9) (fAnd (fTest (fBin (gIs true) (fName 9) (fC .non))) (fNot (fTest (fCall phi__law_is_sign (aCons (fName 1) (aCons (fName 9) aNil)))))) (fName 9) [9]) (fLst aNil))) (sRet (fC (.bl false))) sSkip)
    (sSeq (sIf (fOr (fNot (fTest (fBin gIsi (fName 3) (fC (.op (.ty "str")))))) (fTest (fBin (gIn true) (fName 3) (fTup (aCons (fC (.str "one")) (aCons (fC (.str "high")) (aCons (fC (.str "low")) aNil))))))) (sRet (fC (.bl false))) sSkip)
    (sSeq (sIf (fOr (fNot (fTest (fBin gIsi (fName 4) (fC (.op (.ty "int")))))) (fOr (fTest (fBin gIsi (fName 4) (fC (.op (.ty "bool"))))) (fTest (fBin (gCmp fun i j => decide (i < j)) (fName 4) (fC (.int 0)))))) (sRet (fC (.bl false))) sSkip)
    (sSeq (sSet 7 (fUn gNeg (fC (.int 1))))
    (sSeq (sFor (iSeq (fName 5)) (.nm 8) (sSeq (sIf (fOr (fNot (fTest (fBin gIsi (fName 8) (fC (.op (.ty "tuple")))))) (fOr (fTest (fBin (gEq true) (fB1 gLen (fName 8)) (fC (.int 2)))) (fOr (fNot (fTest (fCall phi__law_is_sign (aCons (fName 1) (aCons (fBin gIx (fName 8) (fC (.int 0))) aNil))))) (fTest (fBin (gCmp fun i j => decide (i ≤ j)) (fBin gIx (fName 8) (fC (.int 0))) (fName 7)))))) (sRet (fC (.bl false))) sSkip)
    (sSeq (sIf (fOr (fNot (fTest (fBin gIsi (fBin gIx (fName 8) (fC (.int 1))) (fC (.op (.ty "str")))))) (fTest (fBin (gIn true) (fBin gIx (fName 8) (fC (.int 1))) (fTup (aCons (fC (.str "keep")) (aCons (fC (.str "check")) (aCons (fC (.str "skip")) (aCons (fC (.str "end")) (aCons (fC (.str "stop")) aNil))))))))) (sRet (fC (.bl false))) sSkip)
    (sSet 7 (fBin gIx (fName 8) (fC (.int 0)))))))
    (sRet (fAndV (fBin gIsi (fName 6) (fC (.op (.ty "str")))) (fBin (gIn false) (fName 6) (fTup (aCons (fC (.str "skip")) (aCons (fC (.str "refuse")) aNil))))))))))))))
def phi__law_is_form : F0 := phi0 1 10 g__law_is_form
theorem e__law_is_form : ∀ ds r, phi__law_is_form ds = some r → ds.length = 1 ∧ run0 10 g__law_is_form ds = some r := fun _ _ h => phi_run h
theorem n__law_is_form : ∀ ds r, phi__law_is_form ds = some r → ds.length = 1 := fun ds r h => (e__law_is_form ds r h).1
-- slots of _law_is_signs: base thing sign
def g__law_is_signs : FS :=
  (sRet (fAndV (fBin gIsi (fName 1) (fC (.op (.ty "tuple")))) (fBin (gEq false) (fLc (iSeq (fName 1)) (.nm 2) (fNot (fTest (fCall phi__law_is_sign (aCons (fName 0) (aCons (fName 2) aNil))))) (fName 2) [2]) (fLst aNil))))
def phi__law_is_signs : F0 := phi0 2 3 g__law_is_signs
theorem e__law_is_signs : ∀ ds r, phi__law_is_signs ds = some r → ds.length = 2 ∧ run0 3 g__law_is_signs ds = some r := fun _ _ h => phi_run h
theorem n__law_is_signs : ∀ ds r, phi__law_is_signs ds = some r → ds.length = 2 := fun ds r h => (e__law_is_signs ds r h).1
-- slots of check_same_base: one other
def g_check_same_base : FS :=
  (sIf (fTest (fBin (gEq true) (fBin gIx (fName 0) (fC dc_BASE)) (fBin gIx (fName 1) (fC dc_BASE)))) sStuck sSkip)
def phi_check_same_base : F0 := phi0 2 2 g_check_same_base
theorem e_check_same_base : ∀ ds r, phi_check_same_base ds = some r → ds.length = 2 ∧ run0 2 g_check_same_base ds = some r := fun _ _ h => phi_run h
-- slots of check_two_formats: one other
def g_check_two_formats : FS :=
  (sSeq (sDrop (fCall phi_check_format (aCons (fName 0) aNil)))
    (sDrop (fCall phi_check_format (aCons (fName 1) aNil))))
def phi_check_two_formats : F0 := phi0 2 2 g_check_two_formats
theorem e_check_two_formats : ∀ ds r, phi_check_two_formats ds = some r → ds.length = 2 ∧ run0 2 g_check_two_formats ds = some r := fun _ _ h => phi_run h
def argR : List D → Prop := fun ds => ∃ f : Frm, ds = [f.d] ∧ f.Ok
def argP : List D → Prop := fun ds => ∃ f : Frm, ds = [f.d, f.d] ∧ f.Ok
-- slots of law: script at bag turn base form_here trial thing signs_here heard near k
def g_law_01 (C1 C2 : Addr) : FS :=
  (sSeq (sFor (iRg1 (pInt (fBin gMax (fC (.int 1)) (fBin gMin (fC (.int 6)) (fB1 gLen (fName 0)))))) (.nm 1) (sSeq (sOwn 2 (fCall phi__law_bag (aCons (fName 0) (aCons (fName 1) aNil))))
    (sFor (iRg1 (pInt (fC (.int 5)))) (.nm 3) (sSeq (sSet 4 (fBin gIx (fLst (aCons (fC (.int 2)) (aCons (fC (.int 3)) (aCons (fC (.int 4)) (aCons (fC (.int 16)) (aCons (fC (.int 256)) (aCons (fBin gAdd (fC (.int 2)) (fCall1 phi__law_grab (aCons (fName 2) (aCons (fC (.int 255)) aNil)))) aNil))))))) (fCall1 phi__law_grab (aCons (fName 2) (aCons (fC (.int 6)) aNil)))))
    (sSeq (sSet 5 (fCall1 phi__law_any_form (aCons (fName 2) (aCons (fName 4) (aCons (fC (.int 19)) aNil)))))
    (sSeq (sIf (fNot (fTest (fCall phi__law_equal (aCons (fLst (aCons (fCall phi_is_format (aCons (fName 5) aNil)) (aCons (fCall phi_is_format (aRev (aCons (fName 5) aNil))) aNil))) (aCons (fLst (aCons (fC (.bl true)) (aCons (fC (.bl true)) aNil))) aNil))))) (sRet (fC (.bl false))) sSkip)
    (sSeq (sFor (iRg1 (pInt (fC (.int 8)))) (.nm 6) (sSeq (sSet 7 (fCall1 phi__law_bent_form (aCons (fName 2) (aCons (fName 5) aNil))))
    (sIf (fNot (fTest (fCall phi__law_equal (aCons (fCall phi_is_format (aCons (fName 7) aNil)) (aCons (fCall phi__law_is_form (aCons (fName 7) aNil)) aNil))))) (sRet (fC (.bl false))) sSkip)))
    (sSeq (sSet 8 (fB1 gTuple (fLc (iRg1 (pInt (fCall1 phi__law_grab (aCons (fName 2) (aCons (fBin gIx (fLst (aCons (fC (.int 9)) (aCons (fC (.int 200)) aNil))) (fCall1 phi__law_grab (aCons (fName 2) (aCons (fC (.int 2)) aNil)))) aNil))))) (.nm 11) fYes (fCall1 phi__law_grab (aCons (fName 2) (aCons (fName 4) aNil))) [11])))
    (sSeq (sSet 9 (fLst (aCons (fCall phi_is_file (aCons (fName 5) (aCons (fName 8) aNil))) (aCons (fCall phi_is_file (aRev (aCons (fName 8) (aCons (fName 5) aNil)))) aNil))))
    (sSeq (sIf (fNot (fTest (fCall phi__law_equal (aCons (fName 9) (aCons (fLst (aCons (fC (.bl true)) (aCons (fC (.bl true)) aNil))) aNil))))) (sRet (fC (.bl false))) sSkip)
    (sSeq (sFor (iRg1 (pInt (fC (.int 6)))) (.nm 6) (sSeq (sSet 7 (fCall1 phi__law_bent_file (aCons (fName 2) (aCons (fName 4) (aCons (fName 8) aNil)))))
    (sIf (fNot (fTest (fCall phi__law_equal (aCons (fCall phi_is_file (aCons (fName 5) (aCons (fName 7) aNil))) (aCons (fCall phi__law_is_signs (aCons (fName 4) (aCons (fName 7) aNil))) aNil))))) (sRet (fC (.bl false))) sSkip)))
    (sSeq (sSet 10 (fTup (aCons (fC (.int 2)) (aCons (fTup aNil) (aCons (fC (.str "one")) (aCons (fC (.int 0)) (aCons (fTup aNil) (aCons (fC (.str "skip")) aNil))))))))
    (sFor (iSeq (fTup (aCons (fNew C1 argR (aCons (fName 10) aNil)) (aCons (fNew C2 argP (aCons (fName 10) (aCons (fName 10) aNil))) aNil)))) (.nm 7) (sIf (fOr (fTest (fBin (gIsB true) (fCall phi_is_format (aCons (fName 7) aNil)) (fC (.bl false)))) (fTest (fBin (gIsB true) (fCall phi_is_file (aCons (fName 5) (aCons (fName 7) aNil))) (fC (.bl false))))) (sRet (fC (.bl false))) sSkip))))))))))))))
    (sSeq (sIf (fTest (fBin (gIsB true) (fCall phi_is_format (aCons (fTup (aCons (fC (.int 4)) (aCons (fTup aNil) (aCons (fC (.str "one")) (aCons (fC (.int 3)) (aCons (fTup (aCons (fTup (aCons (fC (.int 0)) (aCons (fC (.str "keep")) aNil))) (aCons (fTup (aCons (fC (.int 3)) (aCons (fC (.str "skip")) aNil))) (aCons (fTup (aCons (fC (.int 1)) (aCons (fC (.str "end")) aNil))) aNil)))) (aCons (fC (.str "skip")) aNil))))))) aNil)) (fC (.bl false)))) (sRet (fC (.bl false))) sSkip)
    (sRet (fAndV (fBin (gIsB false) (fCall phi_is_format (aCons (fTup (aCons (fC (.int 2)) (aCons (fTup aNil) (aCons (fC (.str "one")) (aCons (fC (.int 0)) (aCons (fTup aNil) (aCons (fC (.str "skip")) aNil))))))) aNil)) (fC (.bl true))) (fBin (gIsB false) (fCall phi_is_file (aCons (fTup (aCons (fC (.int 2)) (aCons (fTup aNil) (aCons (fC (.str "one")) (aCons (fC (.int 0)) (aCons (fTup aNil) (aCons (fC (.str "skip")) aNil))))))) (aCons (fTup aNil) aNil))) (fC (.bl true)))))))
def phi_law_01 (C1 C2 : Addr) : F0 := phi0 1 12 (g_law_01 C1 C2)
theorem e_law_01 (C1 C2 : Addr) : ∀ ds r, phi_law_01 C1 C2 ds = some r → ds.length = 1 ∧ run0 12 (g_law_01 C1 C2) ds = some r := fun _ _ h => phi_run h
end
end Dv

set_option Elab.async false
set_option linter.all false
set_option maxRecDepth 100000
set_option maxHeartbeats 4000000
namespace Dv
open PySem PySem.Spec PyProof.Rows L2
local macro_rules | `(tactic| walk_at "ev") => `(tactic| simp only [kRet_s, ev_name, ev_c, nm_val, nm_own, nm_bor, der_d, der_nw, der_sl, sl_own, sl_bor, sl_val, ev_bin, kBin_s, kBin2_s, kBin3_s, kBin4_s, ev_b1, kOne_s, kOne2_s, kRetD_s, ev_un, kUn1_s, kUn12_s, gNeg_i, ev_test, kTst_s, ev_and, ev_or, ev_not, kAnd_t, kAnd_f, kOr_t, kOr_f, kNot_s, ev_notV, kBl_s, ev_andV, ev_orV, kAndV_t, kAndV_f, kOrV_t, kOrV_f, ev_if, kIfE_t, kIfE_f, ev_yes, ev_ch, kCh_s, kCh2_s, kCh3_s, kCh4_s, kCh5_t, kCh5_f, ev_nil, ev_cons, kC1_s, kC2_s, ev_rev, kRv_s, escs_nil, escs_cons, kX1_s, kX2_s, esc_d, esc_nw, esc_sl, escS_own, escS_val, ev_tup, kT1_s, kT2_s, ev_lst, kL1_s, kL2_s, ev_pno, ev_pzero, ev_pint, kPI_s, ev_sl, kS1_s, kS2_s, kS3_s, kS4_s, ev_lrg, kR1_s, kR2_s, ev_call, kF1_s, kF2_s, kF3_s, ders_nil, ders_cons, kD1_s, kD2_s, rt_d, rt_nw, ev_call1, kG1_s, kG2_s, kG3_s, kG4_s, ow_own, ow_bor, put_own, put_bor, ev_iseq, kI1_s, kI2_t, kI2_l, kI2_f, ev_irg1, kN1_u, kN1_i, ev_irg2, kN2_s, kN3_u, ev_lc, kV1_s, kV2_s, ev_seq, kSeq_n, kSeq_r, kSeq_b, kSeq_c, ev_skip, ev_break, ev_cont, ev_retN, ev_ret, kRt_s, ev_sif, kIf_t, kIf_f, ev_drop, kDr_s, ev_set, kSt_s, kSt2_s, ev_own, kOw_s, ev_unp, kUn_s, kUn2_s, kNx_s, bt_nm, bt_tp, sa_nil, sa_cons, ev_par, kPa_s, sp_nil, sp_own, sp_val, ev_app, kAp_s, kAp2_s, kAp3_s, kAp4_s, ev_sti, kSi_s, kSi2_s, kSi3_s, kSi4_s, kSi5_s, kSi6_s, ev_aug, kAg_s, kAg2_s, val_s, ev_for, kFo_s, loop_nil, loop_cons, kLp_s, kLp_n, kLp_c, kLp_b, kLp_r, ev_while, while_s, kWh_f, kWh_t, kWh_n, kWh_c, kWh_b, kWh_r, lc_nil, lc_cons, kLc1_s, kLc2_t, kLc2_f, kLc3_s, kLc4_s, run0_k, kE0_r, kE0_n, rtOf_d, rtOf_nw, rtOf_sl, rtS_own, run1_k, kE1_r, kE1_n, kE2_s, bor_s, gAdd_i, gAdd_l, gAdd_t, gSub_i, gMul_i, gMod_i, gDiv_i, gPow_i, gEq_i, gEq_s, gEq_b, gCmp_i, gIs_n, gInt_i, gInt_b, gMax_i, gMin_i, gAbs_i, gTup_t, gTup_l, gLen_t, gLen_l, gLen_f, gIx_t, gIx_l, gIx_f, kIx_s, at_0, at_1, at_2, at_3, at_4, at_5, gSl_t, gSl_l,
  List.map_cons, List.map_nil, List.cons_append, List.nil_append, List.append_nil, List.length_cons, List.length_nil, List.replicate_succ, List.replicate_zero, Nat.reduceSub, Nat.reduceAdd, List.getElem?_cons_zero, List.getElem?_cons_succ, List.getElem?_nil, List.set_cons_zero, List.set_cons_succ, List.set_nil, Nat.zero_add, Nat.add_zero,
  List.all_cons, List.all_nil, notSl, Bool.and_true, Bool.true_and, Bool.or_true, Bool.true_or, Bool.and_false, Bool.false_and, Bool.or_false, Bool.false_or, if_true, if_false, Bool.false_eq_true, reduceIte, Bool.not_true, Bool.not_false, Bool.bne_true, Bool.bne_false, decide_true, decide_false, wipeE, backE, backS, nc_0, List.length_map, List.length_append, rg_len, Nat.reduceLeDiff, fd_ix, fi_ix, fi_len, fi_it, dcs, eq_self, Int.reduceEq, Int.reduceLT, Int.reduceLE, Int.reduceAdd, Int.reduceSub, Int.reduceMul, Int.reduceToNat, gIs_c, mkD_n, mkD_s, items, and_true, true_and, and_self, bne_self_eq_false, wt, gIn_t, gIsi_i, gIsi_t, gIsi_s, gIsi_n, gIsi_b, gIsi_l, isi2_c, gEq_n, gEq_l, ev_dk, kDk1_s, kDk2_s, kDk3_s, flatD, eqF_s, eqF_i, eqF_n, List.any_cons, List.any_nil, Rt.o, Option.bind_some, phi0_s, phi1_s, List.reverse_cons, List.reverse_nil, decide_eq_true_eq, kDk1_s, ev_izp, kZ1_s, kZ2_s, *])
/-! ### the package's judges, of any value -/
/-- a value of a kind that isinstance knows -/
def knd : D → Bool
  | .op _ => false
  | .dct _ _ => false
  | _ => true
mutual
def knds : D → Bool
  | .op _ => false
  | .dct _ _ => false
  | .lst ds => kndl ds
  | .tup ds => kndl ds
  | .frl ds => kndl ds
  | _ => true
def kndl : List D → Bool
  | [] => true
  | d :: ds => knds d && kndl ds
end
theorem kndl_mem : ∀ {ds : List D}, kndl ds = true → ∀ d ∈ ds, knds d = true
  | [], _, _, h => nomatch h
  | d :: ds, h, x, hx => by
    rw [kndl, Bool.and_eq_true] at h
    rcases List.mem_cons.mp hx with rfl | hx
    · exact h.1
    · exact kndl_mem h.2 x hx
theorem kndl_of : ∀ {ds : List D}, (∀ d ∈ ds, knds d = true) → kndl ds = true
  | [], _ => rfl
  | d :: ds, h => by rw [kndl, h d (by simp), kndl_of fun x hx => h x (by simp [hx])]; rfl
theorem knd_of {d : D} (h : knds d = true) : knd d = true := by cases d <;> first | rfl | cases h
def isTp : D → Bool | .tup _ => true | _ => false
def isSt : D → Bool | .str _ => true | _ => false
def isIn : D → Bool | .int _ => true | _ => false
def isIb : D → Bool | .int _ => true | .bl _ => true | _ => false
def isBo : D → Bool | .bl _ => true | _ => false
theorem isi_tup {d : D} (h : knd d = true) : gIsi d (.op (.ty "tuple")) = some (.d (.bl (isTp d))) := by
  cases d with
  | odd o => cases o <;> rfl
  | op _ => cases h
  | dct _ _ => cases h
  | _ => rfl
theorem isi_str {d : D} (h : knd d = true) : gIsi d (.op (.ty "str")) = some (.d (.bl (isSt d))) := by
  cases d with
  | odd o => cases o <;> rfl
  | op _ => cases h
  | dct _ _ => cases h
  | _ => rfl
theorem isi_int {d : D} (h : knd d = true) : gIsi d (.op (.ty "int")) = some (.d (.bl (isIb d))) := by
  cases d with
  | odd o => cases o <;> rfl
  | op _ => cases h
  | dct _ _ => cases h
  | _ => rfl
theorem isi_bl {d : D} (h : knd d = true) : gIsi d (.op (.ty "bool")) = some (.d (.bl (isBo d))) := by
  cases d with
  | odd o => cases o <;> rfl
  | op _ => cases h
  | dct _ _ => cases h
  | _ => rfl
theorem integer_any {d : D} (h : knd d = true) : phi_is_integer [d] = some (.d (.bl (isIn d))) := by
  have e1 := isi_int h
  have e2 := isi_bl h
  unfold phi_is_integer g_is_integer
  cases d with
  | op _ => cases h
  | dct _ _ => cases h
  | _ => (clear h; dsimp only [isIb, isBo] at e1 e2; dsimp only [isIn]; walk_at "ev")
def sgn (b : Int) : D → Bool | .int i => decide (0 ≤ i) && decide (i < b) | _ => false
theorem sign_any {d : D} {b : Int} (h : knd d = true) : phi_is_sign [d, .int b] = some (.d (.bl (sgn b d))) := by
  have e1 := integer_any h
  unfold phi_is_sign g_is_sign
  cases d with
  | op _ => cases h
  | dct _ _ => cases h
  | int i =>
    clear h
    dsimp only [isIn] at e1
    dsimp only [sgn]
    by_cases h0 : 0 ≤ i
    · rw [decide_eq_true h0]
      walk_at "ev"
    · rw [decide_eq_false h0]
      have h1 : decide (0 ≤ i) = false := decide_eq_false h0
      walk_at "ev"
  | _ => (clear h; dsimp only [isIn] at e1; dsimp only [sgn]; walk_at "ev")

theorem any_eqs {x : Str} : ∀ (ws : List Str), ((ws.map D.str).any fun y => eqF y (.str x)) = ws.contains x
  | [] => rfl
  | w :: ws => by
    rw [List.map_cons, List.any_cons, any_eqs ws, List.contains_cons, eqF_s]
    congr 1
    by_cases h : x = w
    · subst h; simp
    · rw [decide_eq_false (by exact fun z => h (by first | exact z.symm | exact z))]
      simp [h]
def wrd (ws : List Str) : D → Bool | .str x => ws.contains x | _ => false
theorem flat_strs : ∀ (ws : List Str), (ws.map D.str).all flatD = true
  | [] => rfl
  | w :: ws => by rw [List.map_cons, List.all_cons, flat_strs ws]; rfl
theorem word_any {d : D} {ws : List Str} (h : knd d = true) : phi__is_word [d, .tup (ws.map .str)] = some (.d (.bl (wrd ws d))) := by
  have e1 := isi_str h
  unfold phi__is_word g__is_word
  cases d with
  | op _ => cases h
  | dct _ _ => cases h
  | str x =>
    have e2 : gIn false (.str x) (.tup (ws.map .str)) = some (.d (.bl (ws.contains x))) := by
      show (if flatD (.str x) = true ∧ (ws.map D.str).all flatD = true then some (Opd.d (.bl (((ws.map D.str).any fun y => eqF y (.str x)) != false))) else none) = _
      rw [if_pos ⟨rfl, flat_strs ws⟩, any_eqs, Bool.bne_false]
    clear h
    dsimp only [isSt] at e1
    dsimp only [wrd]
    generalize D.tup (ws.map .str) = T at *
    walk_at "ev"
  | _ => (clear h; dsimp only [isSt] at e1; dsimp only [wrd]; generalize D.tup (ws.map .str) = T at *; walk_at "ev")
theorem all_bls {bs : List Bool} : gAll (.lst (bs.map .bl)) = some (.d (.bl (bs.all _root_.id))) := by
  have : ∀ bs : List Bool, blsD (bs.map .bl) = some bs := fun bs => by
    induction bs with
    | nil => rfl
    | cons b bs ih => rw [List.map_cons, blsD, ih]; rfl
  show ((blsD _).bind fun ns => some (Opd.d (.bl (ns.all _root_.id)))) = _
  rw [this]; rfl
/-- a comprehension of bools -/
theorem lc_bls {t : Tg} {ft : FT} {fe : FE} {vs : List Nat} {ρ : Ev} {ds : List D} {g : D → Bool} (h : ∀ d ∈ ds, ∀ ds' acc, acc.length < 16777216 → lcD t ft fe vs (d :: ds') ρ acc = lcD t ft fe vs ds' ρ (acc ++ [.bl (g d)])) (hl : ds.length ≤ 16777216) :
    lcD t ft fe vs ds ρ [] = some ((ds.map g).map D.bl, ρ) := by
  rw [lc_map (f := fun d => .bl (g d)) h hl, List.map_map]; rfl
def mrk (b : Int) : D → Bool | .non => true | d => sgn b d
def hdB (b : Int) : D → Bool
  | .tup ds => ds.all (mrk b)
  | _ => false
theorem all_map {g : D → Bool} {ds : List D} : ((ds.map g).all _root_.id) = ds.all g := by rw [List.all_map]; rfl
theorem gIs_any {d : D} (h : knd d = true) : gIs false d .non = some (.d (.bl (isNon d))) := by
  cases d <;> first | rfl | cases h
theorem head_any {d : D} {b : Int} (h : knds d = true) (hl : ∀ ds, d = .tup ds → ds.length ≤ 16777216) : phi__is_head [d, .int b] = some (.d (.bl (hdB b d))) := by
  have e1 := isi_tup (knd_of h)
  unfold phi__is_head g__is_head
  cases d with
  | op _ => cases h
  | dct _ _ => cases h
  | tup ds =>
    have e := lc_bls (g := mrk b) (t := .nm 2) (ft := fYes) (fe := fOrV (fBin (gIs false) (fName 2) (fC .non)) (fCall phi_is_sign (aCons (fName 2) (aCons (fName 1) aNil)))) (vs := [2]) (ρ := [.val (.tup ds), .val (.int b), .un]) (ds := ds) (fun d hd ds' acc ha => by
      have hk := knd_of (kndl_mem (by rw [knds] at h; exact h) d hd)
      have e2 := sign_any (b := b) hk
      clear h hl e1
      cases d with
      | op _ => cases hk
      | dct _ _ => cases hk
      | non => (clear hk hd; dsimp only [mrk]; walk_at "ev")
      | _ =>
        have e3 := gIs_any hk
        clear hk hd
        dsimp only [isNon] at e3
        dsimp only [mrk]
        walk_at "ev") (hl ds rfl)
    have e2 := all_bls (bs := ds.map (mrk b))
    rw [all_map] at e2
    clear h hl
    dsimp only [isTp] at e1
    dsimp only [hdB]
    generalize (ds.map (mrk b)).map D.bl = Z at *
    generalize ds.all (mrk b) = W at *
    walk_at "ev"
  | _ => (clear h hl; dsimp only [isTp] at e1; dsimp only [hdB]; walk_at "ev")
end Dv

set_option Elab.async false
set_option linter.all false
set_option maxRecDepth 100000
set_option maxHeartbeats 4000000
namespace Dv
open PySem PySem.Spec PyProof.Rows L2
local macro_rules | `(tactic| walk_at "ev") => `(tactic| simp only [kRet_s, ev_name, ev_c, nm_val, nm_own, nm_bor, der_d, der_nw, der_sl, sl_own, sl_bor, sl_val, ev_bin, kBin_s, kBin2_s, kBin3_s, kBin4_s, ev_b1, kOne_s, kOne2_s, kRetD_s, ev_un, kUn1_s, kUn12_s, gNeg_i, ev_test, kTst_s, ev_and, ev_or, ev_not, kAnd_t, kAnd_f, kOr_t, kOr_f, kNot_s, ev_notV, kBl_s, ev_andV, ev_orV, kAndV_t, kAndV_f, kOrV_t, kOrV_f, ev_if, kIfE_t, kIfE_f, ev_yes, ev_ch, kCh_s, kCh2_s, kCh3_s, kCh4_s, kCh5_t, kCh5_f, ev_nil, ev_cons, kC1_s, kC2_s, ev_rev, kRv_s, escs_nil, escs_cons, kX1_s, kX2_s, esc_d, esc_nw, esc_sl, escS_own, escS_val, ev_tup, kT1_s, kT2_s, ev_lst, kL1_s, kL2_s, ev_pno, ev_pzero, ev_pint, kPI_s, ev_sl, kS1_s, kS2_s, kS3_s, kS4_s, ev_lrg, kR1_s, kR2_s, ev_call, kF1_s, kF2_s, kF3_s, ders_nil, ders_cons, kD1_s, kD2_s, rt_d, rt_nw, ev_call1, kG1_s, kG2_s, kG3_s, kG4_s, ow_own, ow_bor, put_own, put_bor, ev_iseq, kI1_s, kI2_t, kI2_l, kI2_f, ev_irg1, kN1_u, kN1_i, ev_irg2, kN2_s, kN3_u, ev_lc, kV1_s, kV2_s, ev_seq, kSeq_n, kSeq_r, kSeq_b, kSeq_c, ev_skip, ev_break, ev_cont, ev_retN, ev_ret, kRt_s, ev_sif, kIf_t, kIf_f, ev_drop, kDr_s, ev_set, kSt_s, kSt2_s, ev_own, kOw_s, ev_unp, kUn_s, kUn2_s, kNx_s, bt_nm, bt_tp, sa_nil, sa_cons, ev_par, kPa_s, sp_nil, sp_own, sp_val, ev_app, kAp_s, kAp2_s, kAp3_s, kAp4_s, ev_sti, kSi_s, kSi2_s, kSi3_s, kSi4_s, kSi5_s, kSi6_s, ev_aug, kAg_s, kAg2_s, val_s, ev_for, kFo_s, loop_nil, loop_cons, kLp_s, kLp_n, kLp_c, kLp_b, kLp_r, ev_while, while_s, kWh_f, kWh_t, kWh_n, kWh_c, kWh_b, kWh_r, lc_nil, lc_cons, kLc1_s, kLc2_t, kLc2_f, kLc3_s, kLc4_s, run0_k, kE0_r, kE0_n, rtOf_d, rtOf_nw, rtOf_sl, rtS_own, run1_k, kE1_r, kE1_n, kE2_s, bor_s, gAdd_i, gAdd_l, gAdd_t, gSub_i, gMul_i, gMod_i, gDiv_i, gPow_i, gEq_i, gEq_s, gEq_b, gCmp_i, gIs_n, gInt_i, gInt_b, gMax_i, gMin_i, gAbs_i, gTup_t, gTup_l, gLen_t, gLen_l, gLen_f, gIx_t, gIx_l, gIx_f, kIx_s, at_0, at_1, at_2, at_3, at_4, at_5, gSl_t, gSl_l,
  List.map_cons, List.map_nil, List.cons_append, List.nil_append, List.append_nil, List.length_cons, List.length_nil, List.replicate_succ, List.replicate_zero, Nat.reduceSub, Nat.reduceAdd, List.getElem?_cons_zero, List.getElem?_cons_succ, List.getElem?_nil, List.set_cons_zero, List.set_cons_succ, List.set_nil, Nat.zero_add, Nat.add_zero,
  List.all_cons, List.all_nil, notSl, Bool.and_true, Bool.true_and, Bool.or_true, Bool.true_or, Bool.and_false, Bool.false_and, Bool.or_false, Bool.false_or, if_true, if_false, Bool.false_eq_true, reduceIte, Bool.not_true, Bool.not_false, Bool.bne_true, Bool.bne_false, decide_true, decide_false, wipeE, backE, backS, nc_0, List.length_map, List.length_append, rg_len, Nat.reduceLeDiff, fd_ix, fi_ix, fi_len, fi_it, dcs, eq_self, Int.reduceEq, Int.reduceLT, Int.reduceLE, Int.reduceAdd, Int.reduceSub, Int.reduceMul, Int.reduceToNat, gIs_c, mkD_n, mkD_s, items, and_true, true_and, and_self, bne_self_eq_false, wt, gIn_t, gIsi_i, gIsi_t, gIsi_s, gIsi_n, gIsi_b, gIsi_l, isi2_c, gEq_n, gEq_l, ev_dk, kDk1_s, kDk2_s, kDk3_s, flatD, eqF_s, eqF_i, eqF_n, List.any_cons, List.any_nil, Rt.o, Option.bind_some, phi0_s, phi1_s, List.reverse_cons, List.reverse_nil, decide_eq_true_eq, kDk1_s, ev_izp, kZ1_s, kZ2_s, *])
def usesL : List Str := ["keep", "check", "skip", "end", "stop"]
def tgB (b : Int) : D → Bool
  | .tup [x, y] => sgn b x && wrd usesL y
  | _ => false
theorem uses_is : dc_USES = .tup (usesL.map D.str) := rfl
theorem tag_any {d : D} {b : Int} (h : knds d = true) (hl : ∀ ds, d = .tup ds → ds.length ≤ 16777216) : phi__is_tag [d, .int b] = some (.d (.bl (tgB b d))) := by
  have e1 := isi_tup (knd_of h)
  have hu := uses_is
  unfold phi__is_tag g__is_tag
  cases d with
  | op _ => cases h
  | dct _ _ => cases h
  | tup ds =>
    rw [knds] at h
    have hl := hl ds rfl
    have e2 : gLen (.tup ds) = some (.d (.int ds.length)) := by rw [gLen_t]
    by_cases h2 : ds.length = 2
    · match ds, h2 with
      | [x, y], _ =>
        have k1 := knd_of (kndl_mem h x (by simp))
        have k2 := knd_of (kndl_mem h y (by simp))
        have e3 := sign_any (b := b) k1
        have e4 := word_any (ws := usesL) k2
        have e5 : gEq true (.int 2) (.int 2) = some (.d (.bl false)) := rfl
        have e6 : gLen (.tup [x, y]) = some (.d (.int 2)) := rfl
        clear h hl e2 k1 k2
        dsimp only [isTp] at e1
        dsimp only [tgB]
        rw [hu]
        generalize D.tup (usesL.map D.str) = U at *
        generalize wrd usesL y = w at *
        cases hs : sgn b x with
        | true => rw [hs] at e3; walk_at "ev"
        | false => rw [hs] at e3; walk_at "ev"
    · have e5 : gEq true (.int (ds.length : Int)) (.int 2) = some (.d (.bl true)) := by
        show some (Opd.d (.bl (decide ((ds.length : Int) = 2) != true))) = _
        rw [decide_eq_false (by omega)]; rfl
      have e6 : tgB b (.tup ds) = false := by
        match ds, h2 with
        | [], _ => rfl
        | [_], _ => rfl
        | [_, _], h2 => exact absurd rfl h2
        | _ :: _ :: _ :: _, _ => rfl
      rw [e6]
      clear e6 h hl h2
      dsimp only [isTp] at e1
      walk_at "ev"
  | _ => (clear h hl; dsimp only [isTp] at e1; dsimp only [tgB]; walk_at "ev")
/-- the first item, where it is an int -/
def fst0 : D → Int | .tup (.int i :: _) => i | _ => 0
def ascB : List D → Bool
  | x :: y :: r => decide (fst0 x < fst0 y) && ascB (y :: r)
  | _ => true
def tgsB (b : Int) : D → Bool
  | .tup ds => ds.all (tgB b) && ascB ds
  | _ => false

theorem ascB_iff : ∀ {ds : List D}, ascB ds = true ↔ ∀ j x y, ds[j]? = some x → ds[j + 1]? = some y → fst0 x < fst0 y
  | [] => ⟨fun _ _ _ _ h => by simp at h, fun _ => rfl⟩
  | [a] => ⟨fun _ j x y h h2 => by simp at h2, fun _ => rfl⟩
  | a :: b :: r => by
    rw [ascB, Bool.and_eq_true, decide_eq_true_eq, ascB_iff (ds := b :: r)]
    constructor
    · rintro ⟨h1, h2⟩ j x y hx hy
      cases j with
      | zero => simp at hx hy; rw [← hx, ← hy]; exact h1
      | succ j => exact h2 j x y (by simpa using hx) (by simpa using hy)
    · intro h
      exact ⟨h 0 a b rfl rfl, fun j x y hx hy => h (j + 1) x y (by simpa using hx) (by simpa using hy)⟩
def ascG (ds : List D) : D → Bool
  | .int k => decide (fst0 (ds.getD (k - 1).toNat .non) < fst0 (ds.getD k.toNat .non))
  | _ => false
theorem asc_all {ds : List D} : (rgD 1 ((ds.length : Int) - 1).toNat).all (ascG ds) = ascB ds := by
  rw [Bool.eq_iff_iff, ascB_iff, List.all_eq_true]
  constructor
  · intro h j x y hx hy
    obtain ⟨h2, e2⟩ := List.getElem?_eq_some_iff.mp hy
    have h1 : j < ds.length := by omega
    have := h (.int (1 + (j : Int))) (by unfold rgD; exact List.mem_map.mpr ⟨j, List.mem_range.mpr (by omega), rfl⟩)
    unfold ascG at this
    rw [decide_eq_true_eq, show (1 + (j : Int) - 1).toNat = j by omega, show (1 + (j : Int)).toNat = j + 1 by omega, List.getD_eq_getElem?_getD, List.getD_eq_getElem?_getD, hx, hy] at this
    exact this
  · intro h d hd
    obtain ⟨j, hj, rfl⟩ := rg_mem hd
    have h1 : j < ds.length := by omega
    have h2 : j + 1 < ds.length := by omega
    unfold ascG
    rw [decide_eq_true_eq, show (1 + (j : Int) - 1).toNat = j by omega, show (1 + (j : Int)).toNat = j + 1 by omega, List.getD_eq_getElem?_getD, List.getD_eq_getElem?_getD, List.getElem?_eq_getElem h1, List.getElem?_eq_getElem h2]
    exact h j _ _ (List.getElem?_eq_getElem h1) (List.getElem?_eq_getElem h2)
theorem tgB_inv {b : Int} {d : D} (h : tgB b d = true) : ∃ (i : Int) (s : Str), d = .tup [.int i, .str s] := by
  cases d with
  | tup ds =>
    match ds, h with
    | [x, y], h =>
      have h : (sgn b x && wrd usesL y) = true := h
      rw [Bool.and_eq_true] at h
      cases x <;> first | cases h.1 | skip
      cases y <;> first | cases h.2 | skip
      exact ⟨_, _, rfl⟩
  | _ => cases h
theorem tags_any {d : D} {b : Int} (h : knds d = true) (hl : ∀ ds, d = .tup ds → ds.length ≤ 16777216) (hl2 : ∀ ds, d = .tup ds → ∀ x ∈ ds, ∀ es, x = .tup es → es.length ≤ 16777216) : phi__are_tags [d, .int b] = some (.d (.bl (tgsB b d))) := by
  have e1 := isi_tup (knd_of h)
  unfold phi__are_tags g__are_tags
  cases d with
  | op _ => cases h
  | dct _ _ => cases h
  | tup ds =>
    rw [knds] at h
    have hl := hl ds rfl
    have hl2 := hl2 ds rfl
    have e := lc_bls (g := tgB b) (t := .nm 2) (ft := fYes) (fe := fCall phi__is_tag (aCons (fName 2) (aCons (fName 1) aNil))) (vs := [2]) (ρ := [.val (.tup ds), .val (.int b), .un, .un]) (ds := ds) (fun d hd ds' acc ha => by
      have e2 := tag_any (b := b) (kndl_mem h d hd) (hl2 d hd)
      clear h hl hl2 e1 hd
      generalize tgB b d = w at *
      walk_at "ev") hl
    have e2 := all_bls (bs := ds.map (tgB b))
    rw [all_map] at e2
    have e3 : gLen (.tup ds) = some (.d (.int ds.length)) := by rw [gLen_t]
    dsimp only [isTp] at e1
    dsimp only [tgsB]
    cases ht : ds.all (tgB b) with
    | false =>
      rw [ht] at e2
      clear h hl hl2 ht
      generalize (ds.map (tgB b)).map D.bl = Z at *
      walk_at "ev"
    | true =>
      rw [ht] at e2
      have hin : ∀ j (hj : j < ds.length), ∃ (i : Int) (s : Str), ds[j] = .tup [.int i, .str s] := fun j hj => tgB_inv (b := b) (by rw [List.all_eq_true] at ht; exact ht _ (List.getElem_mem hj))
      have e4 := lc_bls (g := ascG ds) (t := .nm 3) (ft := fYes) (fe := tgE) (vs := [3]) (ρ := [.val (.tup ds), .val (.int b), .un, .un]) (ds := rgD 1 ((ds.length : Int) - 1).toNat) (fun d hd ds' acc ha => by
        obtain ⟨j, hj, rfl⟩ := rg_mem hd
        have h1 : j < ds.length := by omega
        have h2 : j + 1 < ds.length := by omega
        obtain ⟨i1, s1, q1⟩ := hin j h1
        obtain ⟨i2, s2, q2⟩ := hin (j + 1) h2
        have a1 : atI ds (1 + (j : Int) - 1) = some (.tup [.int i1, .str s1]) := by rw [show 1 + (j : Int) - 1 = ((j : Nat) : Int) by omega, at_cast, List.getElem?_eq_getElem h1, q1]
        have a2 : atI ds (1 + (j : Int)) = some (.tup [.int i2, .str s2]) := by rw [show 1 + (j : Int) = ((j + 1 : Nat) : Int) by omega, at_cast, List.getElem?_eq_getElem h2, q2]
        have a3 : ascG ds (.int (1 + (j : Int))) = decide (i1 < i2) := by
          show decide (fst0 (ds.getD (1 + (j : Int) - 1).toNat .non) < fst0 (ds.getD (1 + (j : Int)).toNat .non)) = _
          rw [show (1 + (j : Int) - 1).toNat = j by omega, show (1 + (j : Int)).toNat = j + 1 by omega, List.getD_eq_getElem?_getD, List.getD_eq_getElem?_getD, List.getElem?_eq_getElem h1, List.getElem?_eq_getElem h2, q1, q2]; rfl
        rw [a3]
        clear a3 h hl hl2 e1 hd hin e e2 e3 ht q1 q2 h1 h2 hj
        unfold tgE
        walk_at "ev") (by rw [rg_len]; omega)
      have e5 := all_bls (bs := (rgD 1 ((ds.length : Int) - 1).toNat).map (ascG ds))
      rw [all_map, asc_all] at e5
      unfold tgE at e4
      clear h hl2 ht hin
      generalize (ds.map (tgB b)).map D.bl = Z at *
      generalize ((rgD 1 ((ds.length : Int) - 1).toNat).map (ascG ds)).map D.bl = Y at *
      generalize ascB ds = w at *
      walk_at "ev"
  | _ => (clear h hl hl2; dsimp only [isTp] at e1; dsimp only [tgsB]; walk_at "ev")
end Dv

set_option Elab.async false
set_option linter.all false
set_option maxRecDepth 100000
set_option maxHeartbeats 4000000
namespace Dv
open PySem PySem.Spec PyProof.Rows L2
local macro_rules | `(tactic| walk_at "ev") => `(tactic| simp only [kRet_s, ev_name, ev_c, nm_val, nm_own, nm_bor, der_d, der_nw, der_sl, sl_own, sl_bor, sl_val, ev_bin, kBin_s, kBin2_s, kBin3_s, kBin4_s, ev_b1, kOne_s, kOne2_s, kRetD_s, ev_un, kUn1_s, kUn12_s, gNeg_i, ev_test, kTst_s, ev_and, ev_or, ev_not, kAnd_t, kAnd_f, kOr_t, kOr_f, kNot_s, ev_notV, kBl_s, ev_andV, ev_orV, kAndV_t, kAndV_f, kOrV_t, kOrV_f, ev_if, kIfE_t, kIfE_f, ev_yes, ev_ch, kCh_s, kCh2_s, kCh3_s, kCh4_s, kCh5_t, kCh5_f, ev_nil, ev_cons, kC1_s, kC2_s, ev_rev, kRv_s, escs_nil, escs_cons, kX1_s, kX2_s, esc_d, esc_nw, esc_sl, escS_own, escS_val, ev_tup, kT1_s, kT2_s, ev_lst, kL1_s, kL2_s, ev_pno, ev_pzero, ev_pint, kPI_s, ev_sl, kS1_s, kS2_s, kS3_s, kS4_s, ev_lrg, kR1_s, kR2_s, ev_call, kF1_s, kF2_s, kF3_s, ders_nil, ders_cons, kD1_s, kD2_s, rt_d, rt_nw, ev_call1, kG1_s, kG2_s, kG3_s, kG4_s, ow_own, ow_bor, put_own, put_bor, ev_iseq, kI1_s, kI2_t, kI2_l, kI2_f, ev_irg1, kN1_u, kN1_i, ev_irg2, kN2_s, kN3_u, ev_lc, kV1_s, kV2_s, ev_seq, kSeq_n, kSeq_r, kSeq_b, kSeq_c, ev_skip, ev_break, ev_cont, ev_retN, ev_ret, kRt_s, ev_sif, kIf_t, kIf_f, ev_drop, kDr_s, ev_set, kSt_s, kSt2_s, ev_own, kOw_s, ev_unp, kUn_s, kUn2_s, kNx_s, bt_nm, bt_tp, sa_nil, sa_cons, ev_par, kPa_s, sp_nil, sp_own, sp_val, ev_app, kAp_s, kAp2_s, kAp3_s, kAp4_s, ev_sti, kSi_s, kSi2_s, kSi3_s, kSi4_s, kSi5_s, kSi6_s, ev_aug, kAg_s, kAg2_s, val_s, ev_for, kFo_s, loop_nil, loop_cons, kLp_s, kLp_n, kLp_c, kLp_b, kLp_r, ev_while, while_s, kWh_f, kWh_t, kWh_n, kWh_c, kWh_b, kWh_r, lc_nil, lc_cons, kLc1_s, kLc2_t, kLc2_f, kLc3_s, kLc4_s, run0_k, kE0_r, kE0_n, rtOf_d, rtOf_nw, rtOf_sl, rtS_own, run1_k, kE1_r, kE1_n, kE2_s, bor_s, gAdd_i, gAdd_l, gAdd_t, gSub_i, gMul_i, gMod_i, gDiv_i, gPow_i, gEq_i, gEq_s, gEq_b, gCmp_i, gIs_n, gInt_i, gInt_b, gMax_i, gMin_i, gAbs_i, gTup_t, gTup_l, gLen_t, gLen_l, gLen_f, gIx_t, gIx_l, gIx_f, kIx_s, at_0, at_1, at_2, at_3, at_4, at_5, gSl_t, gSl_l,
  List.map_cons, List.map_nil, List.cons_append, List.nil_append, List.append_nil, List.length_cons, List.length_nil, List.replicate_succ, List.replicate_zero, Nat.reduceSub, Nat.reduceAdd, List.getElem?_cons_zero, List.getElem?_cons_succ, List.getElem?_nil, List.set_cons_zero, List.set_cons_succ, List.set_nil, Nat.zero_add, Nat.add_zero,
  List.all_cons, List.all_nil, notSl, Bool.and_true, Bool.true_and, Bool.or_true, Bool.true_or, Bool.and_false, Bool.false_and, Bool.or_false, Bool.false_or, if_true, if_false, Bool.false_eq_true, reduceIte, Bool.not_true, Bool.not_false, Bool.bne_true, Bool.bne_false, decide_true, decide_false, wipeE, backE, backS, nc_0, List.length_map, List.length_append, rg_len, Nat.reduceLeDiff, fd_ix, fi_ix, fi_len, fi_it, dcs, eq_self, Int.reduceEq, Int.reduceLT, Int.reduceLE, Int.reduceAdd, Int.reduceSub, Int.reduceMul, Int.reduceToNat, gIs_c, mkD_n, mkD_s, items, and_true, true_and, and_self, bne_self_eq_false, wt, gIn_t, gIsi_i, gIsi_t, gIsi_s, gIsi_n, gIsi_b, gIsi_l, isi2_c, gEq_n, gEq_l, ev_dk, kDk1_s, kDk2_s, kDk3_s, flatD, eqF_s, eqF_i, eqF_n, List.any_cons, List.any_nil, Rt.o, Option.bind_some, phi0_s, phi1_s, List.reverse_cons, List.reverse_nil, decide_eq_true_eq, kDk1_s, ev_izp, kZ1_s, kZ2_s, *])
mutual
def bnds : D → Bool
  | .lst ds => decide (ds.length ≤ 16777216) && bndl ds
  | .tup ds => decide (ds.length ≤ 16777216) && bndl ds
  | .frl ds => decide (ds.length ≤ 16777216) && bndl ds
  | _ => true
def bndl : List D → Bool
  | [] => true
  | d :: ds => bnds d && bndl ds
end
theorem bndl_mem : ∀ {ds : List D}, bndl ds = true → ∀ d ∈ ds, bnds d = true
  | [], _, _, h => nomatch h
  | d :: ds, h, x, hx => by
    rw [bndl, Bool.and_eq_true] at h
    rcases List.mem_cons.mp hx with rfl | hx
    · exact h.1
    · exact bndl_mem h.2 x hx
theorem bnd_tup {d : D} (h : bnds d = true) : ∀ ds, d = .tup ds → ds.length ≤ 16777216 := fun ds e => by
  subst e
  rw [bnds, Bool.and_eq_true, decide_eq_true_eq] at h
  exact h.1
theorem bnd_its {d : D} (h : bnds d = true) : ∀ ds, d = .tup ds → ∀ x ∈ ds, ∀ es, x = .tup es → es.length ≤ 16777216 := fun ds e x hx es ex => by
  subst e
  rw [bnds, Bool.and_eq_true] at h
  exact bnd_tup (bndl_mem h.2 x hx) es ex
def wdL : List Str := ["one", "high", "low"]
def otL : List Str := ["skip", "refuse"]
theorem widths_is : dc_WIDTHS = .tup (wdL.map D.str) := rfl
theorem others_is : D.tup [.str "skip", .str "refuse"] = .tup (otL.map D.str) := rfl
def natB : D → Bool | .int m => decide (0 ≤ m) | _ => false
def fmtB : D → Bool
  | .tup [.int b, x2, x3, x4, x5, x6] => decide (2 ≤ b) && (decide (b ≤ 256) && (hdB b x2 && (wrd wdL x3 && (natB x4 && (tgsB b x5 && wrd otL x6)))))
  | _ => false
theorem format_any {d : D} (h : knds d = true) (hb : bnds d = true) : phi_is_format [d] = some (.d (.bl (fmtB d))) := by
  have e1 := isi_tup (knd_of h)
  have hw := widths_is
  unfold phi_is_format g_is_format
  cases d with
  | op _ => cases h
  | dct _ _ => cases h
  | tup ds =>
    rw [knds] at h
    have hl := bnd_tup hb ds rfl
    have e2 : gLen (.tup ds) = some (.d (.int ds.length)) := by rw [gLen_t]
    dsimp only [isTp] at e1
    by_cases h2 : ds.length = 6
    · match ds, h2 with
      | [x1, x2, x3, x4, x5, x6], _ =>
        rw [bnds, Bool.and_eq_true] at hb
        have bm := bndl_mem hb.2
        have km := kndl_mem h
        have k1 := knd_of (km x1 (by simp))
        have k4 := knd_of (km x4 (by simp))
        have i1 := integer_any k1
        have i4 := integer_any k4
        have w3 := word_any (ws := wdL) (knd_of (km x3 (by simp)))
        have w6 := word_any (ws := otL) (knd_of (km x6 (by simp)))
        have e5 : gEq true (.int 6) (.int 6) = some (.d (.bl false)) := rfl
        have e6 : gLen (.tup [x1, x2, x3, x4, x5, x6]) = some (.d (.int 6)) := rfl
        have e7 : ∀ ρ : Ev, bindT (.tp [1, 2, 3, 4, 5, 6]) (.tup [x1, x2, x3, x4, x5, x6]) ρ = setAll [1, 2, 3, 4, 5, 6] [x1, x2, x3, x4, x5, x6] ρ := fun _ => rfl
        rw [← widths_is] at w3
        rw [← others_is] at w6
        clear hw
        clear e2 hl
        have hd2 := fun b => head_any (b := b) (km x2 (by simp)) (bnd_tup (bm x2 (by simp)))
        have tg5 := fun b => tags_any (b := b) (km x5 (by simp)) (bnd_tup (bm x5 (by simp))) (bnd_its (bm x5 (by simp)))
        clear km bm hb h
        cases x1 with
        | op _ => cases k1
        | dct _ _ => cases k1
        | int b =>
          clear k1
          dsimp only [isIn] at i1
          replace hd2 := hd2 b
          replace tg5 := tg5 b
          dsimp only [fmtB]
          generalize wrd wdL x3 = q3 at *
          generalize wrd otL x6 = q6 at *
          generalize hdB b x2 = q2 at *
          generalize tgsB b x5 = q5 at *
          by_cases c1 : 2 ≤ b
          · rw [decide_eq_true c1]
            by_cases c2 : b ≤ 256
            · rw [decide_eq_true c2]
              cases q2 with
              | false => walk_at "ev"
              | true =>
                cases q3 with
                | false => walk_at "ev"
                | true =>
                  cases x4 with
                  | op _ => cases k4
                  | dct _ _ => cases k4
                  | int m =>
                    clear k4
                    dsimp only [isIn] at i4
                    dsimp only [natB]
                    by_cases c3 : 0 ≤ m
                    · have c4 : ¬ m < 0 := by omega
                      rw [decide_eq_true c3]
                      cases q5 with
                      | false => walk_at "ev"
                      | true => walk_at "ev"
                    · have c4 : m < 0 := by omega
                      rw [decide_eq_false c3]
                      walk_at "ev"
                  | _ => (clear k4; dsimp only [isIn] at i4; dsimp only [natB]; walk_at "ev")
            · have c3 : decide (b ≤ 256) = false := decide_eq_false c2
              rw [c3]
              walk_at "ev"
          · have c3 : decide (2 ≤ b) = false := decide_eq_false c1
            rw [c3]
            walk_at "ev"
        | _ => (clear k1; dsimp only [isIn] at i1; dsimp only [fmtB]; walk_at "ev")
    · have e5 : gEq true (.int (ds.length : Int)) (.int 6) = some (.d (.bl true)) := by
        show some (Opd.d (.bl (decide ((ds.length : Int) = 6) != true))) = _
        rw [decide_eq_false (by omega)]; rfl
      have e6 : fmtB (.tup ds) = false := by
        unfold fmtB
        split
        · rename_i hh
          cases hh
          exact absurd rfl h2
        · rfl
      rw [e6]
      clear e6 h hl h2 hb
      walk_at "ev"
  | _ => (clear h hb; dsimp only [isTp] at e1; dsimp only [fmtB]; walk_at "ev")
end Dv

set_option Elab.async false
set_option linter.all false
set_option maxRecDepth 100000
set_option maxHeartbeats 4000000
namespace Dv
open PySem PySem.Spec PyProof.Rows L2
local macro_rules | `(tactic| walk_at "ev") => `(tactic| simp only [kRet_s, ev_name, ev_c, nm_val, nm_own, nm_bor, der_d, der_nw, der_sl, sl_own, sl_bor, sl_val, ev_bin, kBin_s, kBin2_s, kBin3_s, kBin4_s, ev_b1, kOne_s, kOne2_s, kRetD_s, ev_un, kUn1_s, kUn12_s, gNeg_i, ev_test, kTst_s, ev_and, ev_or, ev_not, kAnd_t, kAnd_f, kOr_t, kOr_f, kNot_s, ev_notV, kBl_s, ev_andV, ev_orV, kAndV_t, kAndV_f, kOrV_t, kOrV_f, ev_if, kIfE_t, kIfE_f, ev_yes, ev_ch, kCh_s, kCh2_s, kCh3_s, kCh4_s, kCh5_t, kCh5_f, ev_nil, ev_cons, kC1_s, kC2_s, ev_rev, kRv_s, escs_nil, escs_cons, kX1_s, kX2_s, esc_d, esc_nw, esc_sl, escS_own, escS_val, ev_tup, kT1_s, kT2_s, ev_lst, kL1_s, kL2_s, ev_pno, ev_pzero, ev_pint, kPI_s, ev_sl, kS1_s, kS2_s, kS3_s, kS4_s, ev_lrg, kR1_s, kR2_s, ev_call, kF1_s, kF2_s, kF3_s, ders_nil, ders_cons, kD1_s, kD2_s, rt_d, rt_nw, ev_call1, kG1_s, kG2_s, kG3_s, kG4_s, ow_own, ow_bor, put_own, put_bor, ev_iseq, kI1_s, kI2_t, kI2_l, kI2_f, ev_irg1, kN1_u, kN1_i, ev_irg2, kN2_s, kN3_u, ev_lc, kV1_s, kV2_s, ev_seq, kSeq_n, kSeq_r, kSeq_b, kSeq_c, ev_skip, ev_break, ev_cont, ev_retN, ev_ret, kRt_s, ev_sif, kIf_t, kIf_f, ev_drop, kDr_s, ev_set, kSt_s, kSt2_s, ev_own, kOw_s, ev_unp, kUn_s, kUn2_s, kNx_s, bt_nm, bt_tp, sa_nil, sa_cons, ev_par, kPa_s, sp_nil, sp_own, sp_val, ev_app, kAp_s, kAp2_s, kAp3_s, kAp4_s, ev_sti, kSi_s, kSi2_s, kSi3_s, kSi4_s, kSi5_s, kSi6_s, ev_aug, kAg_s, kAg2_s, val_s, ev_for, kFo_s, loop_nil, loop_cons, kLp_s, kLp_n, kLp_c, kLp_b, kLp_r, ev_while, while_s, kWh_f, kWh_t, kWh_n, kWh_c, kWh_b, kWh_r, lc_nil, lc_cons, kLc1_s, kLc2_t, kLc2_f, kLc3_s, kLc4_s, run0_k, kE0_r, kE0_n, rtOf_d, rtOf_nw, rtOf_sl, rtS_own, run1_k, kE1_r, kE1_n, kE2_s, bor_s, gAdd_i, gAdd_l, gAdd_t, gSub_i, gMul_i, gMod_i, gDiv_i, gPow_i, gEq_i, gEq_s, gEq_b, gCmp_i, gIs_n, gInt_i, gInt_b, gMax_i, gMin_i, gAbs_i, gTup_t, gTup_l, gLen_t, gLen_l, gLen_f, gIx_t, gIx_l, gIx_f, kIx_s, at_0, at_1, at_2, at_3, at_4, at_5, gSl_t, gSl_l,
  List.map_cons, List.map_nil, List.cons_append, List.nil_append, List.append_nil, List.length_cons, List.length_nil, List.replicate_succ, List.replicate_zero, Nat.reduceSub, Nat.reduceAdd, List.getElem?_cons_zero, List.getElem?_cons_succ, List.getElem?_nil, List.set_cons_zero, List.set_cons_succ, List.set_nil, Nat.zero_add, Nat.add_zero,
  List.all_cons, List.all_nil, notSl, Bool.and_true, Bool.true_and, Bool.or_true, Bool.true_or, Bool.and_false, Bool.false_and, Bool.or_false, Bool.false_or, if_true, if_false, Bool.false_eq_true, reduceIte, Bool.not_true, Bool.not_false, Bool.bne_true, Bool.bne_false, decide_true, decide_false, wipeE, backE, backS, nc_0, List.length_map, List.length_append, rg_len, Nat.reduceLeDiff, fd_ix, fi_ix, fi_len, fi_it, dcs, eq_self, Int.reduceEq, Int.reduceLT, Int.reduceLE, Int.reduceAdd, Int.reduceSub, Int.reduceMul, Int.reduceToNat, gIs_c, mkD_n, mkD_s, items, and_true, true_and, and_self, bne_self_eq_false, wt, gIn_t, gIsi_i, gIsi_t, gIsi_s, gIsi_n, gIsi_b, gIsi_l, isi2_c, gEq_n, gEq_l, ev_dk, kDk1_s, kDk2_s, kDk3_s, flatD, eqF_s, eqF_i, eqF_n, List.any_cons, List.any_nil, Rt.o, Option.bind_some, phi0_s, phi1_s, List.reverse_cons, List.reverse_nil, decide_eq_true_eq, kDk1_s, ev_izp, kZ1_s, kZ2_s, *])
/-! ### the law's own judges, of any value -/
theorem lsign_any {d : D} {b : Int} (h : knd d = true) : phi__law_is_sign [.int b, d] = some (.d (.bl (sgn b d))) := by
  have e1 := isi_int h
  have e2 := isi_bl h
  unfold phi__law_is_sign g__law_is_sign
  cases d with
  | op _ => cases h
  | dct _ _ => cases h
  | int i =>
    clear h
    dsimp only [isIb, isBo] at e1 e2
    dsimp only [sgn]
    by_cases h0 : 0 ≤ i
    · rw [decide_eq_true h0]
      walk_at "ev"
    · rw [decide_eq_false h0]
      have h1 : decide (0 ≤ i) = false := decide_eq_false h0
      walk_at "ev"
  | _ => (clear h; dsimp only [isIb, isBo] at e1 e2; dsimp only [sgn]; walk_at "ev")
abbrev rwB : FS := (sSeq (sIf (fOr (fNot (fTest (fBin gIsi (fName 8) (fC (.op (.ty "tuple")))))) (fOr (fTest (fBin (gEq true) (fB1 gLen (fName 8)) (fC (.int 2)))) (fOr (fNot (fTest (fCall phi__law_is_sign (aCons (fName 1) (aCons (fBin gIx (fName 8) (fC (.int 0))) aNil))))) (fTest (fBin (gCmp fun i j => decide (i ≤ j)) (fBin gIx (fName 8) (fC (.int 0))) (fName 7)))))) (sRet (fC (.bl false))) sSkip)
    (sSeq (sIf (fOr (fNot (fTest (fBin gIsi (fBin gIx (fName 8) (fC (.int 1))) (fC (.op (.ty "str")))))) (fTest (fBin (gIn true) (fBin gIx (fName 8) (fC (.int 1))) (fTup (aCons (fC (.str "keep")) (aCons (fC (.str "check")) (aCons (fC (.str "skip")) (aCons (fC (.str "end")) (aCons (fC (.str "stop")) aNil))))))))) (sRet (fC (.bl false))) sSkip)
    (sSet 7 (fBin gIx (fName 8) (fC (.int 0))))))
def rowsB (b : Int) : Int → List D → Bool
  | _, [] => true
  | bf, d :: ds => tgB b d && (decide (bf < fst0 d) && rowsB b (fst0 d) ds)
theorem rowsB_is {b : Int} : ∀ (ds : List D) (bf : Int), (∀ d ds', ds = d :: ds' → tgB b d = true → bf < fst0 d) → rowsB b bf ds = (ds.all (tgB b) && ascB ds)
  | [], _, _ => rfl
  | [d], bf, h => by
    rw [rowsB, rowsB, List.all_cons, List.all_nil, ascB]
    cases ht : tgB b d with
    | false => rfl
    | true => rw [decide_eq_true (h d [] rfl ht)]; rfl
    all_goals (intro _ _ _ z; cases z)
  | d :: e :: ds, bf, h => by
    rw [rowsB, List.all_cons, ascB]
    cases ht : tgB b d with
    | false => rfl
    | true =>
      rw [decide_eq_true (h d _ rfl ht), Bool.true_and, Bool.true_and, Bool.true_and]
      by_cases hc : fst0 d < fst0 e
      · rw [decide_eq_true hc, Bool.true_and]
        exact rowsB_is (e :: ds) (fst0 d) fun x xs hx _ => by cases hx; exact hc
      · rw [decide_eq_false hc, rowsB, decide_eq_false hc]
        cases tgB b e <;> simp
theorem uses_in {x : Str} : gIn true (.str x) (.tup [.str "keep", .str "check", .str "skip", .str "end", .str "stop"]) = some (.d (.bl (!usesL.contains x))) := by
  show (if flatD (.str x) = true ∧ (usesL.map D.str).all flatD = true then some (Opd.d (.bl (((usesL.map D.str).any fun y => eqF y (.str x)) != true))) else none) = _
  rw [if_pos ⟨rfl, flat_strs usesL⟩, any_eqs, Bool.bne_true]
theorem rows_loop {b : Int} {x0 x2 x3 x4 x5 x6 x9 : Sl} : ∀ (ds : List D) (bf : Int) (c8 : Sl), kndl ds = true → bndl ds = true →
    (rowsB b bf ds = true → ∃ bf' c8', loopD (.nm 8) rwB ds [x0, .val (.int b), x2, x3, x4, x5, x6, .val (.int bf), c8, x9] = some (.nx [x0, .val (.int b), x2, x3, x4, x5, x6, .val (.int bf'), c8', x9])) ∧
    (rowsB b bf ds = false → ∃ ρ', loopD (.nm 8) rwB ds [x0, .val (.int b), x2, x3, x4, x5, x6, .val (.int bf), c8, x9] = some (.rt (.d (.bl false)) ρ'))
  | [], bf, c8, _, _ => ⟨fun _ => ⟨bf, c8, loop_nil⟩, (fun h => by cases h)⟩
  | d :: ds, bf, c8, hk, hb => by
    rw [kndl, Bool.and_eq_true] at hk
    rw [bndl, Bool.and_eq_true] at hb
    obtain ⟨k1, k2⟩ := hk
    obtain ⟨b1, b2⟩ := hb
    have e1 := isi_tup (knd_of k1)
    have bad : ∀ (P : Prop), (loopD (.nm 8) rwB (d :: ds) [x0, .val (.int b), x2, x3, x4, x5, x6, .val (.int bf), c8, x9] = some (.rt (.d (.bl false)) [x0, .val (.int b), x2, x3, x4, x5, x6, .val (.int bf), .val d, x9])) → rowsB b bf (d :: ds) = false →
        (rowsB b bf (d :: ds) = true → P) ∧ (rowsB b bf (d :: ds) = false → ∃ ρ', loopD (.nm 8) rwB (d :: ds) [x0, .val (.int b), x2, x3, x4, x5, x6, .val (.int bf), c8, x9] = some (.rt (.d (.bl false)) ρ')) := fun P h e => ⟨(fun z => by rw [e] at z; cases z), fun _ => ⟨_, h⟩⟩
    cases d with
    | op _ => cases k1
    | dct _ _ => cases k1
    | tup es =>
      rw [knds] at k1
      have hl := bnd_tup b1 es rfl
      have e2 : gLen (.tup es) = some (.d (.int es.length)) := by rw [gLen_t]
      dsimp only [isTp] at e1
      by_cases h2 : es.length = 2
      · match es, h2 with
        | [x, y], _ =>
          have q1 := knd_of (kndl_mem k1 x (by simp))
          have q2 := knd_of (kndl_mem k1 y (by simp))
          have e3 := lsign_any (b := b) q1
          have e4 := isi_str q2
          have e5 : gEq true (.int 2) (.int 2) = some (.d (.bl false)) := rfl
          have e6 : gLen (.tup [x, y]) = some (.d (.int 2)) := rfl
          have hr : rowsB b bf (.tup [x, y] :: ds) = ((sgn b x && wrd usesL y) && (decide (bf < fst0 (.tup [x, y])) && rowsB b (fst0 (.tup [x, y])) ds)) := rfl
          have hu := @uses_in
          clear e2 hl k1 b1
          cases hs : sgn b x with
          | false =>
            rw [hs] at e3 hr
            refine bad _ ?_ hr
            clear bad hr hs q1 q2 k2 b2
            unfold rwB
            walk_at "ev"
          | true =>
            rw [hs] at e3 hr
            cases x with
            | int i =>
              have hf : fst0 (.tup [.int i, y]) = i := rfl
              rw [hf] at hr
              clear hf q1 hs
              by_cases hc : i ≤ bf
              · have hc2 : decide (bf < i) = false := decide_eq_false (by omega)
                rw [hc2] at hr
                refine bad _ ?_ (by rw [hr]; cases wrd usesL y <;> rfl)
                clear bad hr q2 k2 b2 hc2
                unfold rwB
                walk_at "ev"
              · have hc2 : decide (bf < i) = true := decide_eq_true (by omega)
                rw [hc2] at hr
                have hc3 : decide (i ≤ bf) = false := decide_eq_false hc
                cases y with
                | op _ => cases q2
                | dct _ _ => cases q2
                | str w =>
                  dsimp only [isSt] at e4
                  replace hu := hu (x := w)
                  have hw : wrd usesL (.str w) = usesL.contains w := rfl
                  rw [hw] at hr
                  clear hw
                  cases hcw : usesL.contains w with
                  | false =>
                    rw [hcw] at hr hu
                    refine bad _ ?_ hr
                    clear bad hr q2 k2 b2 hc2 hc hcw
                    unfold rwB
                    walk_at "ev"
                  | true =>
                    rw [hcw] at hr hu
                    rw [show ((true && true) && (true && rowsB b i ds)) = rowsB b i ds from rfl] at hr
                    obtain ⟨i1, i2⟩ := rows_loop (b := b) (x0 := x0) (x2 := x2) (x3 := x3) (x4 := x4) (x5 := x5) (x6 := x6) (x9 := x9) ds i (.val (.tup [.int i, .str w])) k2 b2
                    have st : loopD (.nm 8) rwB (.tup [.int i, .str w] :: ds) [x0, .val (.int b), x2, x3, x4, x5, x6, .val (.int bf), c8, x9] = loopD (.nm 8) rwB ds [x0, .val (.int b), x2, x3, x4, x5, x6, .val (.int i), .val (.tup [.int i, .str w]), x9] := by
                      clear bad hr q2 k2 b2 hc2 hc hcw i1 i2
                      unfold rwB
                      walk_at "ev"
                    rw [st, hr]
                    exact ⟨i1, i2⟩
                | _ =>
                  (dsimp only [isSt] at e4
                   refine bad _ ?_ (by rw [hr]; rfl)
                   clear bad hr q2 k2 b2 hc2 hc hu
                   unfold rwB
                   walk_at "ev")
            | _ => cases hs
      · have e5 : gEq true (.int (es.length : Int)) (.int 2) = some (.d (.bl true)) := by
          show some (Opd.d (.bl (decide ((es.length : Int) = 2) != true))) = _
          rw [decide_eq_false (by omega)]; rfl
        have e6 : tgB b (.tup es) = false := by
          match es, h2 with
          | [], _ => rfl
          | [_], _ => rfl
          | [_, _], h2 => exact absurd rfl h2
          | _ :: _ :: _ :: _, _ => rfl
        refine bad _ ?_ (by rw [rowsB, e6]; rfl)
        clear bad e6 h2 k1 k2 b1 b2 hl
        unfold rwB
        walk_at "ev"
    | _ =>
      (dsimp only [isTp] at e1
       refine bad _ ?_ rfl
       clear bad k1 k2 b1 b2
       unfold rwB
       walk_at "ev")
end Dv

set_option Elab.async false
set_option linter.all false
set_option maxRecDepth 100000
set_option maxHeartbeats 4000000
namespace Dv
open PySem PySem.Spec PyProof.Rows L2
local macro_rules | `(tactic| walk_at "ev") => `(tactic| simp only [kRet_s, ev_name, ev_c, nm_val, nm_own, nm_bor, der_d, der_nw, der_sl, sl_own, sl_bor, sl_val, ev_bin, kBin_s, kBin2_s, kBin3_s, kBin4_s, ev_b1, kOne_s, kOne2_s, kRetD_s, ev_un, kUn1_s, kUn12_s, gNeg_i, ev_test, kTst_s, ev_and, ev_or, ev_not, kAnd_t, kAnd_f, kOr_t, kOr_f, kNot_s, ev_notV, kBl_s, ev_andV, ev_orV, kAndV_t, kAndV_f, kOrV_t, kOrV_f, ev_if, kIfE_t, kIfE_f, ev_yes, ev_ch, kCh_s, kCh2_s, kCh3_s, kCh4_s, kCh5_t, kCh5_f, ev_nil, ev_cons, kC1_s, kC2_s, ev_rev, kRv_s, escs_nil, escs_cons, kX1_s, kX2_s, esc_d, esc_nw, esc_sl, escS_own, escS_val, ev_tup, kT1_s, kT2_s, ev_lst, kL1_s, kL2_s, ev_pno, ev_pzero, ev_pint, kPI_s, ev_sl, kS1_s, kS2_s, kS3_s, kS4_s, ev_lrg, kR1_s, kR2_s, ev_call, kF1_s, kF2_s, kF3_s, ders_nil, ders_cons, kD1_s, kD2_s, rt_d, rt_nw, ev_call1, kG1_s, kG2_s, kG3_s, kG4_s, ow_own, ow_bor, put_own, put_bor, ev_iseq, kI1_s, kI2_t, kI2_l, kI2_f, ev_irg1, kN1_u, kN1_i, ev_irg2, kN2_s, kN3_u, ev_lc, kV1_s, kV2_s, ev_seq, kSeq_n, kSeq_r, kSeq_b, kSeq_c, ev_skip, ev_break, ev_cont, ev_retN, ev_ret, kRt_s, ev_sif, kIf_t, kIf_f, ev_drop, kDr_s, ev_set, kSt_s, kSt2_s, ev_own, kOw_s, ev_unp, kUn_s, kUn2_s, kNx_s, bt_nm, bt_tp, sa_nil, sa_cons, ev_par, kPa_s, sp_nil, sp_own, sp_val, ev_app, kAp_s, kAp2_s, kAp3_s, kAp4_s, ev_sti, kSi_s, kSi2_s, kSi3_s, kSi4_s, kSi5_s, kSi6_s, ev_aug, kAg_s, kAg2_s, val_s, ev_for, kFo_s, loop_nil, loop_cons, kLp_s, kLp_n, kLp_c, kLp_b, kLp_r, ev_while, while_s, kWh_f, kWh_t, kWh_n, kWh_c, kWh_b, kWh_r, lc_nil, lc_cons, kLc1_s, kLc2_t, kLc2_f, kLc3_s, kLc4_s, run0_k, kE0_r, kE0_n, rtOf_d, rtOf_nw, rtOf_sl, rtS_own, run1_k, kE1_r, kE1_n, kE2_s, bor_s, gAdd_i, gAdd_l, gAdd_t, gSub_i, gMul_i, gMod_i, gDiv_i, gPow_i, gEq_i, gEq_s, gEq_b, gCmp_i, gIs_n, gInt_i, gInt_b, gMax_i, gMin_i, gAbs_i, gTup_t, gTup_l, gLen_t, gLen_l, gLen_f, gIx_t, gIx_l, gIx_f, kIx_s, at_0, at_1, at_2, at_3, at_4, at_5, gSl_t, gSl_l,
  List.map_cons, List.map_nil, List.cons_append, List.nil_append, List.append_nil, List.length_cons, List.length_nil, List.replicate_succ, List.replicate_zero, Nat.reduceSub, Nat.reduceAdd, List.getElem?_cons_zero, List.getElem?_cons_succ, List.getElem?_nil, List.set_cons_zero, List.set_cons_succ, List.set_nil, Nat.zero_add, Nat.add_zero,
  List.all_cons, List.all_nil, notSl, Bool.and_true, Bool.true_and, Bool.or_true, Bool.true_or, Bool.and_false, Bool.false_and, Bool.or_false, Bool.false_or, if_true, if_false, Bool.false_eq_true, reduceIte, Bool.not_true, Bool.not_false, Bool.bne_true, Bool.bne_false, decide_true, decide_false, wipeE, backE, backS, nc_0, List.length_map, List.length_append, rg_len, Nat.reduceLeDiff, fd_ix, fi_ix, fi_len, fi_it, dcs, eq_self, Int.reduceEq, Int.reduceLT, Int.reduceLE, Int.reduceAdd, Int.reduceSub, Int.reduceMul, Int.reduceToNat, gIs_c, mkD_n, mkD_s, items, and_true, true_and, and_self, bne_self_eq_false, wt, gIn_t, gIsi_i, gIsi_t, gIsi_s, gIsi_n, gIsi_b, gIsi_l, isi2_c, gEq_n, gEq_l, ev_dk, kDk1_s, kDk2_s, kDk3_s, flatD, eqF_s, eqF_i, eqF_n, List.any_cons, List.any_nil, Rt.o, Option.bind_some, phi0_s, phi1_s, List.reverse_cons, List.reverse_nil, decide_eq_true_eq, kDk1_s, ev_izp, kZ1_s, kZ2_s, *])
def badM (b : Int) (d : D) : List D := if mrk b d then [] else [d]
theorem bad_all {b : Int} : ∀ (ds : List D), (ds.flatMap (badM b)).isEmpty = ds.all (mrk b)
  | [] => rfl
  | d :: ds => by
    rw [List.flatMap_cons, List.all_cons, ← bad_all ds]
    unfold badM
    cases mrk b d with
    | true => rfl
    | false => rfl
theorem marks_any {b : Int} {ds : List D} {x0 x2 x3 x4 x5 x6 x7 x8 : Sl} (h : kndl ds = true) (hl : ds.length ≤ 16777216) :
    lcD (.nm 9) (fAnd (fTest (fBin (gIs true) (fName 9) (fC .non))) (fNot (fTest (fCall phi__law_is_sign (aCons (fName 1) (aCons (fName 9) aNil)))))) (fName 9) [9] ds [x0, .val (.int b), x2, x3, x4, x5, x6, x7, x8, .un] [] = some (ds.flatMap (badM b), [x0, .val (.int b), x2, x3, x4, x5, x6, x7, x8, .un]) := by
  have e := lc_gen (t := .nm 9) (ft := fAnd (fTest (fBin (gIs true) (fName 9) (fC .non))) (fNot (fTest (fCall phi__law_is_sign (aCons (fName 1) (aCons (fName 9) aNil)))))) (fe := fName 9) (vs := [9]) (ρ := [x0, .val (.int b), x2, x3, x4, x5, x6, x7, x8, .un]) (f := badM b) (fun d => by unfold badM; split <;> simp) (ds := ds) (acc := []) (fun d hd ds' acc ha => by
    have hk := knd_of (kndl_mem h d hd)
    have e2 := lsign_any (b := b) hk
    clear h hl hd
    unfold badM
    cases d with
    | op _ => cases hk
    | dct _ _ => cases hk
    | non =>
      have e3 : gIs true .non .non = some (.d (.bl false)) := rfl
      rw [show mrk b .non = true from rfl]
      clear hk
      walk_at "ev"
    | int i =>
      have e3 : gIs true (.int i) .non = some (.d (.bl true)) := rfl
      rw [show mrk b (.int i) = sgn b (.int i) from rfl]
      clear hk
      cases hs : sgn b (.int i) with
      | true => rw [hs] at e2; clear hs; walk_at "ev"
      | false => rw [hs] at e2; clear hs; walk_at "ev"
    | bl i =>
      have e3 : gIs true (.bl i) .non = some (.d (.bl true)) := rfl
      rw [show mrk b (.bl i) = false from rfl]
      replace e2 : phi__law_is_sign [.int b, .bl i] = some (.d (.bl false)) := e2
      clear hk
      walk_at "ev"
    | str i =>
      have e3 : gIs true (.str i) .non = some (.d (.bl true)) := rfl
      rw [show mrk b (.str i) = false from rfl]
      replace e2 : phi__law_is_sign [.int b, .str i] = some (.d (.bl false)) := e2
      clear hk
      walk_at "ev"
    | lst i =>
      have e3 : gIs true (.lst i) .non = some (.d (.bl true)) := rfl
      rw [show mrk b (.lst i) = false from rfl]
      replace e2 : phi__law_is_sign [.int b, .lst i] = some (.d (.bl false)) := e2
      clear hk
      walk_at "ev"
    | tup i =>
      have e3 : gIs true (.tup i) .non = some (.d (.bl true)) := rfl
      rw [show mrk b (.tup i) = false from rfl]
      replace e2 : phi__law_is_sign [.int b, .tup i] = some (.d (.bl false)) := e2
      clear hk
      walk_at "ev"
    | frl i =>
      have e3 : gIs true (.frl i) .non = some (.d (.bl true)) := rfl
      rw [show mrk b (.frl i) = false from rfl]
      replace e2 : phi__law_is_sign [.int b, .frl i] = some (.d (.bl false)) := e2
      clear hk
      walk_at "ev"
    | odd i =>
      have e3 : gIs true (.odd i) .non = some (.d (.bl true)) := rfl
      rw [show mrk b (.odd i) = false from rfl]
      replace e2 : phi__law_is_sign [.int b, .odd i] = some (.d (.bl false)) := e2
      clear hk
      walk_at "ev") (by simpa using hl)
  rw [e, List.nil_append]
theorem gEq_emp {n : Bool} {ds : List D} : gEq n (.lst ds) (.lst []) = some (.d (.bl (ds.isEmpty != n))) := rfl
theorem wide_in {x : Str} : gIn true (.str x) (.tup [.str "one", .str "high", .str "low"]) = some (.d (.bl (!wdL.contains x))) := by
  show (if flatD (.str x) = true ∧ (wdL.map D.str).all flatD = true then some (Opd.d (.bl (((wdL.map D.str).any fun y => eqF y (.str x)) != true))) else none) = _
  rw [if_pos ⟨rfl, flat_strs wdL⟩, any_eqs, Bool.bne_true]
theorem rest_in {x : Str} : gIn false (.str x) (.tup [.str "skip", .str "refuse"]) = some (.d (.bl (otL.contains x))) := by
  show (if flatD (.str x) = true ∧ (otL.map D.str).all flatD = true then some (Opd.d (.bl (((otL.map D.str).any fun y => eqF y (.str x)) != false))) else none) = _
  rw [if_pos ⟨rfl, flat_strs otL⟩, any_eqs, Bool.bne_false]
theorem tgB_pos {b : Int} {d : D} (h : tgB b d = true) : -1 < fst0 d := by
  obtain ⟨i, s, rfl⟩ := tgB_inv h
  have h : (sgn b (.int i) && wrd usesL (.str s)) = true := h
  rw [Bool.and_eq_true] at h
  have h1 : (decide (0 ≤ i) && decide (i < b)) = true := h.1
  rw [Bool.and_eq_true, decide_eq_true_eq] at h1
  show -1 < i
  omega
theorem lform_any {d : D} (h : knds d = true) (hb : bnds d = true) : phi__law_is_form [d] = some (.d (.bl (fmtB d))) := by
  have e1 := isi_tup (knd_of h)
  cases d with
  | op _ => cases h
  | dct _ _ => cases h
  | tup ds =>
    rw [knds] at h
    have hl := bnd_tup hb ds rfl
    have e2 : gLen (.tup ds) = some (.d (.int ds.length)) := by rw [gLen_t]
    dsimp only [isTp] at e1
    by_cases h2 : ds.length = 6
    · match ds, h2 with
      | [x1, x2, x3, x4, x5, x6], _ =>
        rw [bnds, Bool.and_eq_true] at hb
        have bm := bndl_mem hb.2
        have km := kndl_mem h
        have k1 := knd_of (km x1 (by simp))
        have k3 := knd_of (km x3 (by simp))
        have k4 := knd_of (km x4 (by simp))
        have k6 := knd_of (km x6 (by simp))
        have k2 := km x2 (by simp)
        have k5 := km x5 (by simp)
        have b2 := bm x2 (by simp)
        have b5 := bm x5 (by simp)
        have i1 := lsign_any (b := 257) k1
        have i2 := isi_tup (knd_of k2)
        have i5 := isi_tup (knd_of k5)
        have i3 := isi_str k3
        have i6 := isi_str k6
        have i4 := isi_int k4
        have j4 := isi_bl k4
        have e5 : gEq true (.int 6) (.int 6) = some (.d (.bl false)) := rfl
        have e6 : gLen (.tup [x1, x2, x3, x4, x5, x6]) = some (.d (.int 6)) := rfl
        have e7 : ∀ ρ : Ev, bindT (.tp [1, 2, 3, 4, 5, 6]) (.tup [x1, x2, x3, x4, x5, x6]) ρ = setAll [1, 2, 3, 4, 5, 6] [x1, x2, x3, x4, x5, x6] ρ := fun _ => rfl
        clear e2 hl km bm hb h
        cases x1 with
        | op _ => cases k1
        | dct _ _ => cases k1
        | int b =>
          clear k1
          replace i1 : phi__law_is_sign [.int 257, .int b] = some (.d (.bl (decide (0 ≤ b) && decide (b < 257)))) := i1
          dsimp only [fmtB]
          by_cases c0 : 0 ≤ b ∧ b < 257
          · rw [decide_eq_true c0.1, decide_eq_true c0.2] at i1
            replace i1 : phi__law_is_sign [.int 257, .int b] = some (.d (.bl true)) := i1
            have c2 : decide (b ≤ 256) = true := decide_eq_true (by omega)
            rw [c2]
            by_cases c1 : b < 2
            · have c3 : decide (2 ≤ b) = false := decide_eq_false (by omega)
              rw [c3]
              clear c0 c2 c3 k2 k3 k4 k5 k6 b2 b5 i2 i3 i4 i5 i6 j4 h2
              unfold phi__law_is_form g__law_is_form
              walk_at "ev"
            · have c3 : decide (2 ≤ b) = true := decide_eq_true (by omega)
              have c4 : decide (b < 2) = false := decide_eq_false c1
              rw [c3]
              clear c0 c2 c3 h2
              cases x2 with
              | tup hs =>
                rw [knds] at k2
                have hl2 := bnd_tup b2 hs rfl
                dsimp only [isTp] at i2
                cases x5 with
                | tup rs =>
                  rw [knds] at k5
                  rw [bnds, Bool.and_eq_true] at b5
                  dsimp only [isTp] at i5
                  have m1 := marks_any (b := b) (x0 := .val (.tup [.int b, .tup hs, x3, x4, .tup rs, x6])) (x2 := .val (.tup hs)) (x3 := .val x3) (x4 := .val x4) (x5 := .val (.tup rs)) (x6 := .val x6) (x7 := .un) (x8 := .un) k2 hl2
                  have m2 := gEq_emp (n := true) (ds := hs.flatMap (badM b))
                  rw [bad_all] at m2
                  rw [show hdB b (.tup hs) = hs.all (mrk b) from rfl]
                  clear k2 b2 hl2
                  generalize hs.flatMap (badM b) = Z at *
                  cases ha : hs.all (mrk b) with
                  | false =>
                    rw [ha] at m2
                    replace m2 : gEq true (.lst Z) (.lst []) = some (.d (.bl true)) := m2
                    clear ha k3 k4 k5 k6 b5 i3 i4 i6 j4
                    unfold phi__law_is_form g__law_is_form
                    walk_at "ev"
                  | true =>
                    rw [ha] at m2
                    replace m2 : gEq true (.lst Z) (.lst []) = some (.d (.bl false)) := m2
                    clear ha
                    cases x3 with
                    | op _ => cases k3
                    | dct _ _ => cases k3
                    | str w =>
                      clear k3
                      dsimp only [isSt] at i3
                      have hw := wide_in (x := w)
                      rw [show wrd wdL (.str w) = wdL.contains w from rfl]
                      generalize wdL.contains w = cw at *
                      cases cw with
                      | false =>
                        clear k4 k5 k6 b5 i4 i6 j4
                        unfold phi__law_is_form g__law_is_form
                        walk_at "ev"
                      | true =>
                        cases x4 with
                        | op _ => cases k4
                        | dct _ _ => cases k4
                        | int m =>
                          clear k4
                          dsimp only [isIb] at i4
                          dsimp only [isBo] at j4
                          rw [show natB (.int m) = decide (0 ≤ m) from rfl]
                          by_cases c5 : 0 ≤ m
                          · have c6 : decide (m < 0) = false := decide_eq_false (by omega)
                            rw [decide_eq_true c5]
                            clear c5
                            have rl := rows_loop (b := b) (x0 := .val (.tup [.int b, .tup hs, .str w, .int m, .tup rs, x6])) (x2 := .val (.tup hs)) (x3 := .val (.str w)) (x4 := .val (.int m)) (x5 := .val (.tup rs)) (x6 := .val x6) (x9 := .un) rs (-1) .un k5 b5.2
                            rw [rowsB_is rs (-1) fun d ds' _ ht => tgB_pos ht] at rl
                            rw [show tgsB b (.tup rs) = (rs.all (tgB b) && ascB rs) from rfl]
                            obtain ⟨l1, l2⟩ := rl
                            clear k5 b5
                            have gn : gNeg (.int 1) = some (.int (-1)) := rfl
                            cases hr : (rs.all (tgB b) && ascB rs) with
                            | false =>
                              obtain ⟨ρ', q⟩ := l2 hr
                              clear l1 l2 hr k6 i6
                              unfold rwB at q
                              unfold phi__law_is_form g__law_is_form
                              walk_at "ev"
                            | true =>
                              obtain ⟨bf, c8, q⟩ := l1 hr
                              clear l1 l2 hr
                              unfold rwB at q
                              cases x6 with
                              | op _ => cases k6
                              | dct _ _ => cases k6
                              | str z =>
                                clear k6
                                dsimp only [isSt] at i6
                                have hz := rest_in (x := z)
                                rw [show wrd otL (.str z) = otL.contains z from rfl]
                                generalize otL.contains z = cz at *
                                unfold phi__law_is_form g__law_is_form
                                walk_at "ev"
                              | _ =>
                                (clear k6
                                 dsimp only [isSt] at i6
                                 dsimp only [wrd]
                                 unfold phi__law_is_form g__law_is_form
                                 walk_at "ev")
                          · have c6 : decide (m < 0) = true := decide_eq_true (by omega)
                            rw [decide_eq_false c5]
                            clear c5 k5 k6 b5 i6
                            unfold phi__law_is_form g__law_is_form
                            walk_at "ev"
                        | _ =>
                          (clear k4 k5 k6 b5 i6
                           dsimp only [isIb] at i4
                           dsimp only [isBo] at j4
                           dsimp only [natB]
                           unfold phi__law_is_form g__law_is_form
                           walk_at "ev")
                    | _ =>
                      (clear k3 k4 k5 k6 b5 i4 i6 j4
                       dsimp only [isSt] at i3
                       dsimp only [wrd]
                       unfold phi__law_is_form g__law_is_form
                       walk_at "ev")
                | _ =>
                  (dsimp only [isTp] at i5
                   dsimp only [tgsB]
                   rw [show ∀ c1 c2 c3 c4 : Bool, (true && (true && (c1 && (c2 && (c3 && (false && c4)))))) = false from by decide]
                   clear k2 k3 k4 k5 k6 b2 b5 i3 i4 i6 j4 hl2
                   unfold phi__law_is_form g__law_is_form
                   walk_at "ev")
              | _ =>
                (dsimp only [isTp] at i2
                 dsimp only [hdB]
                 clear k2 k3 k4 k5 k6 b2 b5 i3 i4 i5 i6 j4
                 unfold phi__law_is_form g__law_is_form
                 walk_at "ev")
          · have c1 : (decide (0 ≤ b) && decide (b < 257)) = false := by
              by_cases z : 0 ≤ b
              · rw [decide_eq_true z, decide_eq_false (by omega)]; rfl
              · rw [decide_eq_false z]; rfl
            rw [c1] at i1
            have c2 : ∀ c : Bool, (decide (2 ≤ b) && (decide (b ≤ 256) && c)) = false := fun c => by
              by_cases z : 2 ≤ b
              · rw [decide_eq_false (show ¬ b ≤ 256 by omega)]; cases decide (2 ≤ b) <;> rfl
              · rw [decide_eq_false z]; rfl
            rw [c2]
            clear c1 c2 c0 k2 k3 k4 k5 k6 b2 b5 i2 i3 i4 i5 i6 j4 h2
            unfold phi__law_is_form g__law_is_form
            walk_at "ev"
        | _ =>
          (replace i1 : phi__law_is_sign [.int 257, _] = some (.d (.bl false)) := i1
           dsimp only [fmtB]
           clear k1 k2 k3 k4 k5 k6 b2 b5 i2 i3 i4 i5 i6 j4 h2
           unfold phi__law_is_form g__law_is_form
           walk_at "ev")
    · have e5 : gEq true (.int (ds.length : Int)) (.int 6) = some (.d (.bl true)) := by
        show some (Opd.d (.bl (decide ((ds.length : Int) = 6) != true))) = _
        rw [decide_eq_false (by omega)]; rfl
      have e6 : fmtB (.tup ds) = false := by
        unfold fmtB
        split
        · rename_i hh
          cases hh
          exact absurd rfl h2
        · rfl
      rw [e6]
      clear e6 h hl h2 hb
      unfold phi__law_is_form g__law_is_form
      walk_at "ev"
  | _ =>
    (clear h hb
     dsimp only [isTp] at e1
     dsimp only [fmtB]
     unfold phi__law_is_form g__law_is_form
     walk_at "ev")
end Dv

set_option Elab.async false
set_option linter.all false
set_option maxRecDepth 100000
set_option maxHeartbeats 4000000
namespace Dv
open PySem PySem.Spec PyProof.Rows L2
local macro_rules | `(tactic| walk_at "ev") => `(tactic| simp only [kRet_s, ev_name, ev_c, nm_val, nm_own, nm_bor, der_d, der_nw, der_sl, sl_own, sl_bor, sl_val, ev_bin, kBin_s, kBin2_s, kBin3_s, kBin4_s, ev_b1, kOne_s, kOne2_s, kRetD_s, ev_un, kUn1_s, kUn12_s, gNeg_i, ev_test, kTst_s, ev_and, ev_or, ev_not, kAnd_t, kAnd_f, kOr_t, kOr_f, kNot_s, ev_notV, kBl_s, ev_andV, ev_orV, kAndV_t, kAndV_f, kOrV_t, kOrV_f, ev_if, kIfE_t, kIfE_f, ev_yes, ev_ch, kCh_s, kCh2_s, kCh3_s, kCh4_s, kCh5_t, kCh5_f, ev_nil, ev_cons, kC1_s, kC2_s, ev_rev, kRv_s, escs_nil, escs_cons, kX1_s, kX2_s, esc_d, esc_nw, esc_sl, escS_own, escS_val, ev_tup, kT1_s, kT2_s, ev_lst, kL1_s, kL2_s, ev_pno, ev_pzero, ev_pint, kPI_s, ev_sl, kS1_s, kS2_s, kS3_s, kS4_s, ev_lrg, kR1_s, kR2_s, ev_call, kF1_s, kF2_s, kF3_s, ders_nil, ders_cons, kD1_s, kD2_s, rt_d, rt_nw, ev_call1, kG1_s, kG2_s, kG3_s, kG4_s, ow_own, ow_bor, put_own, put_bor, ev_iseq, kI1_s, kI2_t, kI2_l, kI2_f, ev_irg1, kN1_u, kN1_i, ev_irg2, kN2_s, kN3_u, ev_lc, kV1_s, kV2_s, ev_seq, kSeq_n, kSeq_r, kSeq_b, kSeq_c, ev_skip, ev_break, ev_cont, ev_retN, ev_ret, kRt_s, ev_sif, kIf_t, kIf_f, ev_drop, kDr_s, ev_set, kSt_s, kSt2_s, ev_own, kOw_s, ev_unp, kUn_s, kUn2_s, kNx_s, bt_nm, bt_tp, sa_nil, sa_cons, ev_par, kPa_s, sp_nil, sp_own, sp_val, ev_app, kAp_s, kAp2_s, kAp3_s, kAp4_s, ev_sti, kSi_s, kSi2_s, kSi3_s, kSi4_s, kSi5_s, kSi6_s, ev_aug, kAg_s, kAg2_s, val_s, ev_for, kFo_s, loop_nil, loop_cons, kLp_s, kLp_n, kLp_c, kLp_b, kLp_r, ev_while, while_s, kWh_f, kWh_t, kWh_n, kWh_c, kWh_b, kWh_r, lc_nil, lc_cons, kLc1_s, kLc2_t, kLc2_f, kLc3_s, kLc4_s, run0_k, kE0_r, kE0_n, rtOf_d, rtOf_nw, rtOf_sl, rtS_own, run1_k, kE1_r, kE1_n, kE2_s, bor_s, gAdd_i, gAdd_l, gAdd_t, gSub_i, gMul_i, gMod_i, gDiv_i, gPow_i, gEq_i, gEq_s, gEq_b, gCmp_i, gIs_n, gInt_i, gInt_b, gMax_i, gMin_i, gAbs_i, gTup_t, gTup_l, gLen_t, gLen_l, gLen_f, gIx_t, gIx_l, gIx_f, kIx_s, at_0, at_1, at_2, at_3, at_4, at_5, gSl_t, gSl_l,
  List.map_cons, List.map_nil, List.cons_append, List.nil_append, List.append_nil, List.length_cons, List.length_nil, List.replicate_succ, List.replicate_zero, Nat.reduceSub, Nat.reduceAdd, List.getElem?_cons_zero, List.getElem?_cons_succ, List.getElem?_nil, List.set_cons_zero, List.set_cons_succ, List.set_nil, Nat.zero_add, Nat.add_zero,
  List.all_cons, List.all_nil, notSl, Bool.and_true, Bool.true_and, Bool.or_true, Bool.true_or, Bool.and_false, Bool.false_and, Bool.or_false, Bool.false_or, if_true, if_false, Bool.false_eq_true, reduceIte, Bool.not_true, Bool.not_false, Bool.bne_true, Bool.bne_false, decide_true, decide_false, wipeE, backE, backS, nc_0, List.length_map, List.length_append, rg_len, Nat.reduceLeDiff, fd_ix, fi_ix, fi_len, fi_it, dcs, eq_self, Int.reduceEq, Int.reduceLT, Int.reduceLE, Int.reduceAdd, Int.reduceSub, Int.reduceMul, Int.reduceToNat, gIs_c, mkD_n, mkD_s, items, and_true, true_and, and_self, bne_self_eq_false, wt, gIn_t, gIsi_i, gIsi_t, gIsi_s, gIsi_n, gIsi_b, gIsi_l, isi2_c, gEq_n, gEq_l, ev_dk, kDk1_s, kDk2_s, kDk3_s, flatD, eqF_s, eqF_i, eqF_n, List.any_cons, List.any_nil, Rt.o, Option.bind_some, phi0_s, phi1_s, List.reverse_cons, List.reverse_nil, decide_eq_true_eq, kDk1_s, ev_izp, kZ1_s, kZ2_s, *])
/-! ### files, of any value -/
def sgsB (b : Int) : D → Bool
  | .tup ds => ds.all (sgn b)
  | _ => false
theorem signs_any {d : D} {b : Int} (h : knds d = true) (hb : bnds d = true) : phi_are_signs [d, .int b] = some (.d (.bl (sgsB b d))) := by
  have e1 := isi_tup (knd_of h)
  unfold phi_are_signs g_are_signs
  cases d with
  | op _ => cases h
  | dct _ _ => cases h
  | tup ds =>
    have hl := bnd_tup hb ds rfl
    have e := lc_bls (g := sgn b) (t := .nm 2) (ft := fYes) (fe := fCall phi_is_sign (aCons (fName 2) (aCons (fName 1) aNil))) (vs := [2]) (ρ := [.val (.tup ds), .val (.int b), .un]) (ds := ds) (fun d hd ds' acc ha => by
      have e2 := sign_any (b := b) (knd_of (kndl_mem (by rw [knds] at h; exact h) d hd))
      clear h hl e1 hd hb
      generalize sgn b d = w at *
      walk_at "ev") hl
    have e2 := all_bls (bs := ds.map (sgn b))
    rw [all_map] at e2
    clear h hl hb
    dsimp only [isTp] at e1
    dsimp only [sgsB]
    generalize (ds.map (sgn b)).map D.bl = Z at *
    generalize ds.all (sgn b) = W at *
    walk_at "ev"
  | _ => (clear h hb; dsimp only [isTp] at e1; dsimp only [sgsB]; walk_at "ev")
theorem file_any {f : Frm} {d : D} (o : f.Ok) (h : knds d = true) (hb : bnds d = true) : phi_is_file [f.d, d] = some (.d (.bl (sgsB f.base d))) := by
  have e1 := cform_ok o
  have e2 := signs_any (b := f.base) h hb
  have e3 : gIx f.d (.int 0) = some (.d (.int f.base)) := rfl
  clear o h hb
  generalize sgsB f.base d = w at *
  generalize f.d = F at *
  unfold phi_is_file g_is_file
  walk_at "ev"
def badS (b : Int) (d : D) : List D := if sgn b d then [] else [d]
theorem badS_all {b : Int} : ∀ (ds : List D), (ds.flatMap (badS b)).isEmpty = ds.all (sgn b)
  | [] => rfl
  | d :: ds => by
    rw [List.flatMap_cons, List.all_cons, ← badS_all ds]
    unfold badS
    cases sgn b d with
    | true => rfl
    | false => rfl
theorem lsigns_any {d : D} {b : Int} (h : knds d = true) (hb : bnds d = true) : phi__law_is_signs [.int b, d] = some (.d (.bl (sgsB b d))) := by
  have e1 := isi_tup (knd_of h)
  unfold phi__law_is_signs g__law_is_signs
  cases d with
  | op _ => cases h
  | dct _ _ => cases h
  | tup ds =>
    have hl := bnd_tup hb ds rfl
    have e := lc_gen (t := .nm 2) (ft := fNot (fTest (fCall phi__law_is_sign (aCons (fName 0) (aCons (fName 2) aNil))))) (fe := fName 2) (vs := [2]) (ρ := [.val (.int b), .val (.tup ds), .un]) (f := badS b) (fun d => by unfold badS; split <;> simp) (ds := ds) (acc := []) (fun d hd ds' acc ha => by
      have e2 := lsign_any (b := b) (knd_of (kndl_mem (by rw [knds] at h; exact h) d hd))
      clear h hl e1 hd hb
      unfold badS
      cases hs : sgn b d with
      | true => rw [hs] at e2; clear hs; walk_at "ev"
      | false => rw [hs] at e2; clear hs; walk_at "ev") (by simpa using hl)
    rw [List.nil_append] at e
    have e2 := gEq_emp (n := false) (ds := ds.flatMap (badS b))
    rw [badS_all, Bool.bne_false] at e2
    clear h hl hb
    dsimp only [isTp] at e1
    dsimp only [sgsB]
    generalize ds.flatMap (badS b) = Z at *
    generalize ds.all (sgn b) = W at *
    walk_at "ev"
  | _ => (clear h hb; dsimp only [isTp] at e1; dsimp only [sgsB]; walk_at "ev")
end Dv

set_option Elab.async false
set_option linter.all false
set_option maxRecDepth 100000
set_option maxHeartbeats 4000000
namespace Dv
open PySem PySem.Spec PyProof.Rows L2
local macro_rules | `(tactic| walk_at "ev") => `(tactic| simp only [kRet_s, ev_name, ev_c, nm_val, nm_own, nm_bor, der_d, der_nw, der_sl, sl_own, sl_bor, sl_val, ev_bin, kBin_s, kBin2_s, kBin3_s, kBin4_s, ev_b1, kOne_s, kOne2_s, kRetD_s, ev_un, kUn1_s, kUn12_s, gNeg_i, ev_test, kTst_s, ev_and, ev_or, ev_not, kAnd_t, kAnd_f, kOr_t, kOr_f, kNot_s, ev_notV, kBl_s, ev_andV, ev_orV, kAndV_t, kAndV_f, kOrV_t, kOrV_f, ev_if, kIfE_t, kIfE_f, ev_yes, ev_ch, kCh_s, kCh2_s, kCh3_s, kCh4_s, kCh5_t, kCh5_f, ev_nil, ev_cons, kC1_s, kC2_s, ev_rev, kRv_s, escs_nil, escs_cons, kX1_s, kX2_s, esc_d, esc_nw, esc_sl, escS_own, escS_val, ev_tup, kT1_s, kT2_s, ev_lst, kL1_s, kL2_s, ev_pno, ev_pzero, ev_pint, kPI_s, ev_sl, kS1_s, kS2_s, kS3_s, kS4_s, ev_lrg, kR1_s, kR2_s, ev_call, kF1_s, kF2_s, kF3_s, ders_nil, ders_cons, kD1_s, kD2_s, rt_d, rt_nw, ev_call1, kG1_s, kG2_s, kG3_s, kG4_s, ow_own, ow_bor, put_own, put_bor, ev_iseq, kI1_s, kI2_t, kI2_l, kI2_f, ev_irg1, kN1_u, kN1_i, ev_irg2, kN2_s, kN3_u, ev_lc, kV1_s, kV2_s, ev_seq, kSeq_n, kSeq_r, kSeq_b, kSeq_c, ev_skip, ev_break, ev_cont, ev_retN, ev_ret, kRt_s, ev_sif, kIf_t, kIf_f, ev_drop, kDr_s, ev_set, kSt_s, kSt2_s, ev_own, kOw_s, ev_unp, kUn_s, kUn2_s, kNx_s, bt_nm, bt_tp, sa_nil, sa_cons, ev_par, kPa_s, sp_nil, sp_own, sp_val, ev_app, kAp_s, kAp2_s, kAp3_s, kAp4_s, ev_sti, kSi_s, kSi2_s, kSi3_s, kSi4_s, kSi5_s, kSi6_s, ev_aug, kAg_s, kAg2_s, val_s, ev_for, kFo_s, loop_nil, loop_cons, kLp_s, kLp_n, kLp_c, kLp_b, kLp_r, ev_while, while_s, kWh_f, kWh_t, kWh_n, kWh_c, kWh_b, kWh_r, lc_nil, lc_cons, kLc1_s, kLc2_t, kLc2_f, kLc3_s, kLc4_s, run0_k, kE0_r, kE0_n, rtOf_d, rtOf_nw, rtOf_sl, rtS_own, run1_k, kE1_r, kE1_n, kE2_s, bor_s, gAdd_i, gAdd_l, gAdd_t, gSub_i, gMul_i, gMod_i, gDiv_i, gPow_i, gEq_i, gEq_s, gEq_b, gCmp_i, gIs_n, gInt_i, gInt_b, gMax_i, gMin_i, gAbs_i, gTup_t, gTup_l, gLen_t, gLen_l, gLen_f, gIx_t, gIx_l, gIx_f, kIx_s, at_0, at_1, at_2, at_3, at_4, at_5, gSl_l, ev_emp,
  List.map_cons, List.map_nil, List.cons_append, List.nil_append, List.append_nil, List.length_cons, List.length_nil, List.replicate_succ, List.replicate_zero, Nat.reduceSub, Nat.reduceAdd, List.getElem?_cons_zero, List.getElem?_cons_succ, List.getElem?_nil, List.set_cons_zero, List.set_cons_succ, List.set_nil, Nat.zero_add, Nat.add_zero,
  List.all_cons, List.all_nil, notSl, Bool.and_true, Bool.true_and, Bool.or_true, Bool.true_or, Bool.and_false, Bool.false_and, Bool.or_false, Bool.false_or, if_true, if_false, Bool.false_eq_true, reduceIte, Bool.not_true, Bool.not_false, Bool.bne_true, Bool.bne_false, decide_true, decide_false, wipeE, backE, backS, nc_0, List.length_map, List.length_append, rg_len, Nat.reduceLeDiff, fd_ix, fi_ix, fi_len, fi_it, dcs, eq_self, Int.reduceEq, Int.reduceLT, Int.reduceLE, Int.reduceAdd, Int.reduceSub, Int.reduceMul, Int.reduceToNat, gIs_c, mkD_n, mkD_s, items, and_true, true_and, and_self, bne_self_eq_false, wt, gIn_t, gIsi_i, gIsi_t, gIsi_s, gIsi_n, gIsi_b, gIsi_l, isi2_c, gEq_n, gEq_l, ev_dk, kDk1_s, kDk2_s, kDk3_s, flatD, eqF_s, eqF_i, eqF_n, List.any_cons, List.any_nil, Rt.o, Option.bind_some, phi0_s, phi1_s, List.reverse_cons, List.reverse_nil, decide_eq_true_eq, kDk1_s, ev_izp, kZ1_s, kZ2_s, *])
/-! ### values drawn otherwise -/
def tame (d : D) : Bool := knds d && bnds d
theorem tame_of {d : D} (h : knds d = true) (h2 : bnds d = true) : tame d = true := by unfold tame; rw [h, h2]; rfl
theorem tame_k {d : D} (h : tame d = true) : knds d = true := by unfold tame at h; rw [Bool.and_eq_true] at h; exact h.1
theorem tame_b {d : D} (h : tame d = true) : bnds d = true := by unfold tame at h; rw [Bool.and_eq_true] at h; exact h.2
theorem bndl_of : ∀ {ds : List D}, (∀ d ∈ ds, bnds d = true) → bndl ds = true
  | [], _ => rfl
  | d :: ds, h => by rw [bndl, h d (by simp), bndl_of fun x hx => h x (by simp [hx])]; rfl
theorem tm_tup {ds : List D} (h : ∀ d ∈ ds, tame d = true) (hl : ds.length ≤ 16777216) : tame (.tup ds) = true :=
  tame_of (by rw [knds]; exact kndl_of fun d hd => tame_k (h d hd)) (by rw [bnds, bndl_of fun d hd => tame_b (h d hd), decide_eq_true hl]; rfl)
theorem tm_lst {ds : List D} (h : ∀ d ∈ ds, tame d = true) (hl : ds.length ≤ 16777216) : tame (.lst ds) = true :=
  tame_of (by rw [knds]; exact kndl_of fun d hd => tame_k (h d hd)) (by rw [bnds, bndl_of fun d hd => tame_b (h d hd), decide_eq_true hl]; rfl)
theorem pick_any {ds : List D} {v : Int} (h0 : 0 ≤ v) (h1 : v < ds.length) : ∃ x, atI ds v = some x ∧ x ∈ ds := by
  obtain ⟨n, rfl⟩ := Int.eq_ofNat_of_zero_le h0
  have hlt : n < ds.length := by omega
  exact ⟨ds[n], by rw [at_cast]; exact List.getElem?_eq_getElem hlt, List.getElem_mem hlt⟩
theorem cut_mem {ds : List D} {lo hi : Option Int} : ∀ d ∈ cutD ds lo hi, d ∈ ds := fun d h => List.mem_of_mem_drop (List.mem_of_mem_take h)
theorem cut_len {ds : List D} {lo hi : Option Int} : (cutD ds lo hi).length ≤ ds.length := by
  unfold cutD
  rw [List.length_take, List.length_drop]
  omega
theorem bent_file {g : Bag} {base N : Int} {ds : List D} (hb : 2 ≤ base ∧ base ≤ 256) (hg : g.In N) (hN : N + 100 < 2 ^ 60) (ht : ∀ d ∈ ds, tame d = true) (hl : ds.length ≤ 1000) :
    ∃ x g', phi__law_bent_file [.lst g.d, .int base, .tup ds] = some (.d x, Bag.d g') ∧ tame x = true ∧ Bag.In g' (N + 10) := by
  obtain ⟨v1, g1, q1, a1, b1, i1⟩ := grab_ok (n := 12) (by omega) (by omega) hg (by omega)
  obtain ⟨odd, p1, m1⟩ := pick_any (ds := [.non, .bl true, .bl false, .str "1", .tup [.int 1], .lst [.int 2], .odd .emp, .int (-1), .int base, .int (base + 7), .int 0, .int (base - 1)]) a1 b1
  have t1 : tame odd = true := by
    simp only [List.mem_cons, List.not_mem_nil, or_false] at m1
    rcases m1 with rfl | rfl | rfl | rfl | rfl | rfl | rfl | rfl | rfl | rfl | rfl | rfl <;> rfl
  obtain ⟨v2, g2, q2, a2, b2, i2⟩ := grab_ok (n := (ds.length : Int) + 1) (by omega) (by omega) i1 (by omega)
  have l1 := cut_len (ds := ds) (lo := none) (hi := some v2)
  have l2 := cut_len (ds := ds) (lo := some v2) (hi := none)
  have l3 := cut_len (ds := ds) (lo := some (v2 + 1)) (hi := none)
  have u1 := fun d h => ht d (cut_mem (ds := ds) (lo := none) (hi := some v2) d h)
  have u2 := fun d h => ht d (cut_mem (ds := ds) (lo := some v2) (hi := none) d h)
  have u3 := fun d h => ht d (cut_mem (ds := ds) (lo := some (v2 + 1)) (hi := none) d h)
  have s1 : gSl (.tup ds) none (some v2) = some (.d (.tup (cutD ds none (some v2)))) := rfl
  have s2 : gSl (.tup ds) (some v2) none = some (.d (.tup (cutD ds (some v2) none))) := rfl
  have s3 : gSl (.tup ds) (some (v2 + 1)) none = some (.d (.tup (cutD ds (some (v2 + 1)) none))) := rfl
  generalize cutD ds none (some v2) = A at *
  generalize cutD ds (some v2) none = B at *
  generalize cutD ds (some (v2 + 1)) none = C at *
  have c1 : gAdd (.tup A) (.tup [odd]) = some (.d (.tup (A ++ [odd]))) := gAdd_t (by rw [List.length_singleton]; omega)
  have c2 : gAdd (.tup (A ++ [odd])) (.tup B) = some (.d (.tup (A ++ [odd] ++ B))) := gAdd_t (by rw [List.length_append, List.length_singleton]; omega)
  have c3 : gAdd (.tup (A ++ [odd])) (.tup C) = some (.d (.tup (A ++ [odd] ++ C))) := gAdd_t (by rw [List.length_append, List.length_singleton]; omega)
  have tA : ∀ Z : List D, (∀ d ∈ Z, tame d = true) → Z.length ≤ 1000 → tame (.tup (A ++ [odd] ++ Z)) = true := fun Z hZ hlz => tm_tup (fun d hd => by
    rcases List.mem_append.mp hd with hd | hd
    · rcases List.mem_append.mp hd with hd | hd
      · exact u1 d hd
      · rw [List.mem_singleton.mp hd]; exact t1
    · exact hZ d hd) (by rw [List.length_append, List.length_append, List.length_singleton]; omega)
  have tT := tm_tup ht (by omega)
  obtain ⟨v3, g3, q3, a3, b3, i3⟩ := grab_ok (n := 12) (by omega) (by omega) i2 (by omega)
  obtain ⟨x, p3, m3⟩ := pick_any (ds := [.tup (A ++ [odd] ++ B), .tup (A ++ [odd] ++ C), .lst ds, .non, .int 0, .str "", .str "0 1", .odd .emp, .bl true, .tup [.tup ds], .lst [.tup ds], .tup ds]) a3 b3
  refine ⟨x, g3, ?_, ?_, i3.le (by omega)⟩
  · have e0 : gLen (.tup ds) = some (.d (.int ds.length)) := by rw [gLen_t]
    have e1 : gList (.tup ds) = some (.nw ds) := rfl
    have n12 : ((12 : Nat) : Int) = 12 := rfl
    clear hb hg hN ht hl a1 b1 m1 t1 i1 a2 b2 i2 l1 l2 l3 u1 u2 u3 tA tT a3 b3 m3 i3
    unfold phi__law_bent_file g__law_bent_file
    walk_at "ev"
  · simp only [List.mem_cons, List.not_mem_nil, or_false] at m3
    rcases m3 with rfl | rfl | rfl | rfl | rfl | rfl | rfl | rfl | rfl | rfl | rfl | rfl
    · exact tA B u2 (by omega)
    · exact tA C u3 (by omega)
    · exact tm_lst ht (by omega)
    · rfl
    · rfl
    · rfl
    · rfl
    · rfl
    · rfl
    · exact tm_tup (fun d hd => by rw [List.mem_singleton.mp hd]; exact tT) (by simp)
    · exact tm_lst (fun d hd => by rw [List.mem_singleton.mp hd]; exact tT) (by simp)
    · exact tT
end Dv

set_option Elab.async false
set_option linter.all false
set_option maxRecDepth 100000
set_option maxHeartbeats 4000000
namespace Dv
open PySem PySem.Spec PyProof.Rows L2
local macro_rules | `(tactic| walk_at "ev") => `(tactic| simp only [kRet_s, ev_name, ev_c, nm_val, nm_own, nm_bor, der_d, der_nw, der_sl, sl_own, sl_bor, sl_val, ev_bin, kBin_s, kBin2_s, kBin3_s, kBin4_s, ev_b1, kOne_s, kOne2_s, kRetD_s, ev_un, kUn1_s, kUn12_s, gNeg_i, ev_test, kTst_s, ev_and, ev_or, ev_not, kAnd_t, kAnd_f, kOr_t, kOr_f, kNot_s, ev_notV, kBl_s, ev_andV, ev_orV, kAndV_t, kAndV_f, kOrV_t, kOrV_f, ev_if, kIfE_t, kIfE_f, ev_yes, ev_ch, kCh_s, kCh2_s, kCh3_s, kCh4_s, kCh5_t, kCh5_f, ev_nil, ev_cons, kC1_s, kC2_s, ev_rev, kRv_s, escs_nil, escs_cons, kX1_s, kX2_s, esc_d, esc_nw, esc_sl, escS_own, escS_val, ev_tup, kT1_s, kT2_s, ev_lst, kL1_s, kL2_s, ev_pno, ev_pzero, ev_pint, kPI_s, ev_sl, kS1_s, kS2_s, kS3_s, kS4_s, ev_lrg, kR1_s, kR2_s, ev_call, kF1_s, kF2_s, kF3_s, ders_nil, ders_cons, kD1_s, kD2_s, rt_d, rt_nw, ev_call1, kG1_s, kG2_s, kG3_s, kG4_s, ow_own, ow_bor, put_own, put_bor, ev_iseq, kI1_s, kI2_t, kI2_l, kI2_f, ev_irg1, kN1_u, kN1_i, ev_irg2, kN2_s, kN3_u, ev_lc, kV1_s, kV2_s, ev_seq, kSeq_n, kSeq_r, kSeq_b, kSeq_c, ev_skip, ev_break, ev_cont, ev_retN, ev_ret, kRt_s, ev_sif, kIf_t, kIf_f, ev_drop, kDr_s, ev_set, kSt_s, kSt2_s, ev_own, kOw_s, ev_unp, kUn_s, kUn2_s, kNx_s, bt_nm, bt_tp, sa_nil, sa_cons, ev_par, kPa_s, sp_nil, sp_own, sp_val, ev_app, kAp_s, kAp2_s, kAp3_s, kAp4_s, ev_sti, kSi_s, kSi2_s, kSi3_s, kSi4_s, kSi5_s, kSi6_s, ev_aug, kAg_s, kAg2_s, val_s, ev_for, kFo_s, loop_nil, loop_cons, kLp_s, kLp_n, kLp_c, kLp_b, kLp_r, ev_while, while_s, kWh_f, kWh_t, kWh_n, kWh_c, kWh_b, kWh_r, lc_nil, lc_cons, kLc1_s, kLc2_t, kLc2_f, kLc3_s, kLc4_s, run0_k, kE0_r, kE0_n, rtOf_d, rtOf_nw, rtOf_sl, rtS_own, run1_k, kE1_r, kE1_n, kE2_s, bor_s, gAdd_i, gAdd_l, gAdd_t, gSub_i, gMul_i, gMod_i, gDiv_i, gPow_i, gEq_i, gEq_s, gEq_b, gCmp_i, gIs_n, gInt_i, gInt_b, gMax_i, gMin_i, gAbs_i, gTup_t, gTup_l, gLen_t, gLen_l, gLen_f, gIx_t, gIx_l, gIx_f, kIx_s, at_0, at_1, at_2, at_3, at_4, at_5, gSl_l, ev_emp,
  List.map_cons, List.map_nil, List.cons_append, List.nil_append, List.append_nil, List.length_cons, List.length_nil, List.replicate_succ, List.replicate_zero, Nat.reduceSub, Nat.reduceAdd, List.getElem?_cons_zero, List.getElem?_cons_succ, List.getElem?_nil, List.set_cons_zero, List.set_cons_succ, List.set_nil, Nat.zero_add, Nat.add_zero,
  List.all_cons, List.all_nil, notSl, Bool.and_true, Bool.true_and, Bool.or_true, Bool.true_or, Bool.and_false, Bool.false_and, Bool.or_false, Bool.false_or, if_true, if_false, Bool.false_eq_true, reduceIte, Bool.not_true, Bool.not_false, Bool.bne_true, Bool.bne_false, decide_true, decide_false, wipeE, backE, backS, nc_0, List.length_map, List.length_append, rg_len, Nat.reduceLeDiff, fd_ix, fi_ix, fi_len, fi_it, dcs, eq_self, Int.reduceEq, Int.reduceLT, Int.reduceLE, Int.reduceAdd, Int.reduceSub, Int.reduceMul, Int.reduceToNat, gIs_c, mkD_n, mkD_s, items, and_true, true_and, and_self, bne_self_eq_false, wt, gIn_t, gIsi_i, gIsi_t, gIsi_s, gIsi_n, gIsi_b, gIsi_l, isi2_c, gEq_n, gEq_l, ev_dk, kDk1_s, kDk2_s, kDk3_s, flatD, eqF_s, eqF_i, eqF_n, List.any_cons, List.any_nil, Rt.o, Option.bind_some, phi0_s, phi1_s, List.reverse_cons, List.reverse_nil, decide_eq_true_eq, kDk1_s, ev_izp, kZ1_s, kZ2_s, *])
theorem t6 {a b c d e f : D} (ha : tame a = true) (hb : tame b = true) (hc : tame c = true) (hd : tame d = true) (he : tame e = true) (hf : tame f = true) : tame (.tup [a, b, c, d, e, f]) = true := tm_tup (fun x hx => by
  simp only [List.mem_cons, List.not_mem_nil, or_false] at hx
  rcases hx with rfl | rfl | rfl | rfl | rfl | rfl <;> assumption) (by simp)
theorem tame_mk {d : Option Int} : tame (mkD d) = true := by cases d <;> rfl
theorem tame_us {u : Us} : tame u.s = true := by cases u <;> rfl
theorem tame_tg {t : Int × Us} : tame (tgD t) = true := tm_tup (fun d hd => by
  simp only [List.mem_cons, List.not_mem_nil, or_false] at hd
  rcases hd with rfl | rfl
  · rfl
  · exact tame_us) (by simp)
theorem tm_app {A B : List D} (ha : ∀ d ∈ A, tame d = true) (hb : ∀ d ∈ B, tame d = true) : ∀ d ∈ A ++ B, tame d = true := fun d h => (List.mem_append.mp h).elim (ha d) (hb d)
theorem tm_one {x : D} (h : tame x = true) : ∀ d ∈ [x], tame d = true := fun d hd => by rw [List.mem_singleton.mp hd]; exact h
theorem bent_form {g : Bag} {f : Frm} {N : Int} (o : f.Ok) (hg : g.In N) (hN : N + 100 < 2 ^ 60) :
    ∃ x g', phi__law_bent_form [.lst g.d, f.d] = some (.d x, Bag.d g') ∧ tame x = true ∧ Bag.In g' (N + 20) := by
  have hb0 : 2 ≤ f.base := o.b0
  have hb1 : f.base ≤ 256 := o.b1
  have hhl : f.head.length ≤ 1000 := o.hl
  have htl : f.tags.length ≤ 1000 := o.tl
  have hF : f.d = .tup [.int f.base, .tup (f.head.map mkD), f.width.s, .int f.most, .tup (f.tags.map tgD), f.others.s] := rfl
  have tH : ∀ d ∈ f.head.map mkD, tame d = true := fun d hd => by
    obtain ⟨x, _, rfl⟩ := List.mem_map.mp hd; exact tame_mk
  have tR : ∀ d ∈ f.tags.map tgD, tame d = true := fun d hd => by
    obtain ⟨x, _, rfl⟩ := List.mem_map.mp hd; exact tame_tg
  have tW : tame f.width.s = true := by cases f.width <;> rfl
  have tZ : tame f.others.s = true := by cases f.others <;> rfl
  have lH : (f.head.map mkD).length ≤ 1000 := by rw [List.length_map]; exact hhl
  have lR : (f.tags.map tgD).length ≤ 1000 := by rw [List.length_map]; exact htl
  have rows0 : ∀ v : Int, 0 ≤ v → v < (f.tags.map tgD).length → ∃ (t : D) (L : Int), atI (f.tags.map tgD) v = some t ∧ gIx t (.int 0) = some (.d (.int L)) := fun v h0 h1 => by
    obtain ⟨x, e, hm⟩ := pick_any h0 h1
    obtain ⟨t, _, rfl⟩ := List.mem_map.mp hm
    exact ⟨_, t.1, e, rfl⟩
  have tM : tame (.int f.most) = true := rfl
  have tB : tame (.int f.base) = true := rfl
  rw [hF]
  clear hF o hhl htl
  generalize f.head.map mkD = H at *
  generalize f.tags.map tgD = R at *
  generalize f.width.s = W at *
  generalize f.others.s = Z at *
  generalize f.most = m at *
  generalize f.base = base at *
  obtain ⟨v8, g8, q8, a8, b8, i8⟩ := grab_ok (n := 10) (by omega) (by omega) hg (by omega)
  obtain ⟨odd, p8, m8⟩ := pick_any (ds := [.non, .bl true, .bl false, .str "1", .tup [.int 1], .lst [.int 2], .odd .emp, .int (-1), .int base, .int (base + 1)]) a8 b8
  have tO : tame odd = true := by
    simp only [List.mem_cons, List.not_mem_nil, or_false] at m8
    rcases m8 with rfl | rfl | rfl | rfl | rfl | rfl | rfl | rfl | rfl | rfl <;> rfl
  obtain ⟨v9, g9, q9, a9, b9, i9⟩ := grab_ok (n := (H.length : Int) + 1) (by omega) (by omega) i8 (by omega)
  obtain ⟨v10, g10, q10, a10, b10, i10⟩ := grab_ok (n := (R.length : Int) + 1) (by omega) (by omega) i9 (by omega)
  obtain ⟨v11, g11, q11, a11, b11, i11⟩ := grab_ok (n := 11) (by omega) (by omega) i10 (by omega)
  obtain ⟨word, p11, m11⟩ := pick_any (ds := [.str "one", .str "high", .str "low", .str "One", .str "two", .str "hig", .str "", .non, .int 1, .lst [.str "one"], .str "keep"]) a11 b11
  have tO2 : tame word = true := by
    simp only [List.mem_cons, List.not_mem_nil, or_false] at m11
    rcases m11 with rfl | rfl | rfl | rfl | rfl | rfl | rfl | rfl | rfl | rfl | rfl <;> rfl
  obtain ⟨v13, g13, q13, a13, b13, i13⟩ := grab_ok (n := 14) (by omega) (by omega) i11 (by omega)
  obtain ⟨use, p13, m13⟩ := pick_any (ds := [.str "keep", .str "check", .str "skip", .str "end", .str "stop", .str "ends", .str "kee", .str "", .non, .int 3, .lst [.str "end"], .str "Stop", .str "refuse", .str "one"]) a13 b13
  have tU : tame use = true := by
    simp only [List.mem_cons, List.not_mem_nil, or_false] at m13
    rcases m13 with rfl | rfl | rfl | rfl | rfl | rfl | rfl | rfl | rfl | rfl | rfl | rfl | rfl | rfl <;> rfl
  obtain ⟨L, hL⟩ : ∃ L : Int, (0 < v10 → ∃ t, atI R (v10 - 1) = some t ∧ gIx t (.int 0) = some (.d (.int L))) ∧ (¬ 0 < v10 → L = -1) := by
    by_cases h : 0 < v10
    · obtain ⟨t, L, e1, e2⟩ := rows0 (v10 - 1) (by omega) (by omega)
      exact ⟨L, fun _ => ⟨t, e1, e2⟩, fun z => absurd h z⟩
    · exact ⟨-1, fun z => absurd z h, fun _ => rfl⟩
  obtain ⟨v16, g16, q16, a16, b16, i16⟩ := grab_ok (n := 7) (by omega) (by omega) i13 (by omega)
  obtain ⟨bad, p16, m16⟩ := pick_any (ds := [.tup [.int (L + 1), use], .tup [.int L, .str "keep"], .tup [odd, .str "skip"], .lst [.int (L + 1), .str "keep"], .tup [.int (L + 1)], odd, .tup [.int (L + 1), .str "keep", .int 0]]) a16 b16
  have tBad : tame bad = true := by
    simp only [List.mem_cons, List.not_mem_nil, or_false] at m16
    rcases m16 with rfl | rfl | rfl | rfl | rfl | rfl | rfl
    · exact tm_tup (fun d hd => by
        simp only [List.mem_cons, List.not_mem_nil, or_false] at hd
        rcases hd with rfl | rfl
        · rfl
        · exact tU) (by simp)
    · rfl
    · exact tm_tup (fun d hd => by
        simp only [List.mem_cons, List.not_mem_nil, or_false] at hd
        rcases hd with rfl | rfl
        · exact tO
        · rfl) (by simp)
    · rfl
    · rfl
    · exact tO
    · rfl
  obtain ⟨v18, g18, q18, a18, b18, i18⟩ := grab_ok (n := 15) (by omega) (by omega) i16 (by omega)
  obtain ⟨ore, p18, m18⟩ := pick_any (ds := [.str "skip", .str "refuse", .str "skips", .str "refus", .str "keep", .str "", .non, .int 0, .str "Skip", .lst [.str "skip"], .odd .emp, .tup [.str "skip"], .str "end", .str "stop", .str "check"]) a18 b18
  have tO3 : tame ore = true := by
    simp only [List.mem_cons, List.not_mem_nil, or_false] at m18
    rcases m18 with rfl | rfl | rfl | rfl | rfl | rfl | rfl | rfl | rfl | rfl | rfl | rfl | rfl | rfl | rfl <;> rfl
  obtain ⟨w1, h1, r1, c1, d1, j1⟩ := grab_ok (n := 5) (by omega) (by omega) i18 (by omega)
  obtain ⟨y1, s1, n1⟩ := pick_any (ds := [.int 1, .int 0, .int 2, .int 257, .int 256]) c1 d1
  have ty1 : tame y1 = true := by
    simp only [List.mem_cons, List.not_mem_nil, or_false] at n1
    rcases n1 with rfl | rfl | rfl | rfl | rfl <;> rfl
  obtain ⟨w2, h2, r2, c2, d2, j2⟩ := grab_ok (n := 5) (by omega) (by omega) j1 (by omega)
  obtain ⟨y2, s2, n2⟩ := pick_any (ds := [.lst H, .non, .int 0, .str "", .odd .emp]) c2 d2
  have ty2 : tame y2 = true := by
    simp only [List.mem_cons, List.not_mem_nil, or_false] at n2
    rcases n2 with rfl | rfl | rfl | rfl | rfl
    · exact tm_lst tH (by omega)
    all_goals rfl
  obtain ⟨w3, h3, r3, c3, d3, j3⟩ := grab_ok (n := 5) (by omega) (by omega) j2 (by omega)
  obtain ⟨y3, s3, n3⟩ := pick_any (ds := [.non, .int 0, .odd .emp, .str "", .tup [.str "keep"]]) c3 d3
  have ty3 : tame y3 = true := by
    simp only [List.mem_cons, List.not_mem_nil, or_false] at n3
    rcases n3 with rfl | rfl | rfl | rfl | rfl <;> rfl
  obtain ⟨w4, h4, r4, c4, d4, j4⟩ := grab_ok (n := 25) (by omega) (by omega) j3 (by omega)
  clear m8 m11 m13 m16 m18 n1 n2 n3
  -- the cuts
  have k1 := cut_len (ds := R) (lo := none) (hi := some v10)
  have k2 := cut_len (ds := R) (lo := some v10) (hi := none)
  have k3 := cut_len (ds := R) (lo := some v10) (hi := some (v10 + 2))
  have k4 := cut_len (ds := R) (lo := some (v10 + 2)) (hi := none)
  have k5 := cut_len (ds := H) (lo := none) (hi := some v9)
  have k6 := cut_len (ds := H) (lo := some v9) (hi := none)
  have u1 := fun d h => tR d (cut_mem (ds := R) (lo := none) (hi := some v10) d h)
  have u2 := fun d h => tR d (cut_mem (ds := R) (lo := some v10) (hi := none) d h)
  have u3 := fun d h => tR d (cut_mem (ds := R) (lo := some v10) (hi := some (v10 + 2)) d h)
  have u4 := fun d h => tR d (cut_mem (ds := R) (lo := some (v10 + 2)) (hi := none) d h)
  have u5 := fun d h => tH d (cut_mem (ds := H) (lo := none) (hi := some v9) d h)
  have u6 := fun d h => tH d (cut_mem (ds := H) (lo := some v9) (hi := none) d h)
  have z1 : gSl (.tup R) none (some v10) = some (.d (.tup (cutD R none (some v10)))) := rfl
  have z2 : gSl (.tup R) (some v10) none = some (.d (.tup (cutD R (some v10) none))) := rfl
  have z3 : gSl (.tup R) (some v10) (some (v10 + 2)) = some (.d (.tup (cutD R (some v10) (some (v10 + 2))))) := rfl
  have z4 : gSl (.tup R) (some (v10 + 2)) none = some (.d (.tup (cutD R (some (v10 + 2)) none))) := rfl
  have z5 : gSl (.tup H) none (some v9) = some (.d (.tup (cutD H none (some v9)))) := rfl
  have z6 : gSl (.tup H) (some v9) none = some (.d (.tup (cutD H (some v9) none))) := rfl
  generalize cutD R none (some v10) = A1 at *
  generalize cutD R (some v10) none = A2 at *
  generalize cutD R (some v10) (some (v10 + 2)) = A3 at *
  generalize cutD R (some (v10 + 2)) none = A4 at *
  generalize cutD H none (some v9) = H1 at *
  generalize cutD H (some v9) none = H2 at *
  have x1 : gAdd (.tup A1) (.tup [bad]) = some (.d (.tup (A1 ++ [bad]))) := gAdd_t (by rw [List.length_singleton]; omega)
  have x2 : gAdd (.tup (A1 ++ [bad])) (.tup A2) = some (.d (.tup (A1 ++ [bad] ++ A2))) := gAdd_t (by rw [List.length_append, List.length_singleton]; omega)
  have x3 : gAdd (.tup H1) (.tup [odd]) = some (.d (.tup (H1 ++ [odd]))) := gAdd_t (by rw [List.length_singleton]; omega)
  have x4 : gAdd (.tup (H1 ++ [odd])) (.tup H2) = some (.d (.tup (H1 ++ [odd] ++ H2))) := gAdd_t (by rw [List.length_append, List.length_singleton]; omega)
  have x5 : gAdd (.tup A1) (.tup A3.reverse) = some (.d (.tup (A1 ++ A3.reverse))) := gAdd_t (by rw [List.length_reverse]; omega)
  have x6 : gAdd (.tup (A1 ++ A3.reverse)) (.tup A4) = some (.d (.tup (A1 ++ A3.reverse ++ A4))) := gAdd_t (by rw [List.length_append, List.length_reverse]; omega)
  have f1 : gSl (.tup [.int base, .tup H, W, .int m, .tup R, Z]) (some 1) none = some (.d (.tup [.tup H, W, .int m, .tup R, Z])) := rfl
  have f5 : gSl (.tup [.int base, .tup H, W, .int m, .tup R, Z]) none (some 5) = some (.d (.tup [.int base, .tup H, W, .int m, .tup R])) := rfl
  have e0 : ∀ ρ : Ev, bindT (.tp [2, 3, 4, 5, 6, 7]) (.tup [.int base, .tup H, W, .int m, .tup R, Z]) ρ = setAll [2, 3, 4, 5, 6, 7] [.int base, .tup H, W, .int m, .tup R, Z] ρ := fun _ => rfl
  have er : ∀ f, fRevT f = fB1 gRev f := fun _ => rfl
  have ev1 : gRev (.tup A3) = some (.d (.tup A3.reverse)) := rfl
  have ev2 : gRev (.tup R) = some (.d (.tup R.reverse)) := rfl
  have el1 : gLen (.tup H) = some (.d (.int H.length)) := by rw [gLen_t]
  have el2 : gLen (.tup R) = some (.d (.int R.length)) := by rw [gLen_t]
  have eh : gList (.tup H) = some (.nw H) := rfl
  have eR : gList (.tup R) = some (.nw R) := rfl
  have eF : gList (.tup [.int base, .tup H, W, .int m, .tup R, Z]) = some (.nw [.int base, .tup H, W, .int m, .tup R, Z]) := rfl
  have tTA : tame (.tup (A1 ++ [bad] ++ A2)) = true := tm_tup (tm_app (tm_app u1 (tm_one tBad)) u2) (by rw [List.length_append, List.length_append, List.length_singleton]; omega)
  have tNear : tame (.tup (A1 ++ A3.reverse ++ A4)) = true := tm_tup (tm_app (tm_app u1 fun d hd => u3 d (List.mem_reverse.mp hd)) u4) (by rw [List.length_append, List.length_append, List.length_reverse]; omega)
  have tHO : tame (.tup (H1 ++ [odd] ++ H2)) = true := tm_tup (tm_app (tm_app u5 (tm_one tO)) u6) (by rw [List.length_append, List.length_append, List.length_singleton]; omega)
  have tTR : tame (.tup R) = true := tm_tup tR (by omega)
  have tTH : tame (.tup H) = true := tm_tup tH (by omega)
  have tRR : tame (.tup R.reverse) = true := tm_tup (fun d hd => tR d (List.mem_reverse.mp hd)) (by rw [List.length_reverse]; omega)
  have tLR : tame (.lst R) = true := tm_lst tR (by omega)
  have tFm : tame (.tup [.int base, .tup H, W, .int m, .tup R, Z]) = true := t6 tB tTH tW tM tTR tZ
  obtain ⟨x, s4, n4⟩ := pick_any (ds := [.tup [odd, .tup H, W, .int m, .tup R, Z], .tup [y1, .tup H, W, .int m, .tup R, Z], .tup [.int base, .tup (H1 ++ [odd] ++ H2), W, .int m, .tup R, Z], .tup [.int base, y2, W, .int m, .tup R, Z],
    .tup [.int base, .tup H, word, .int m, .tup R, Z], .tup [.int base, .tup H, W, odd, .tup R, Z], .tup [.int base, .tup H, W, .int m, .tup (A1 ++ [bad] ++ A2), Z], .tup [.int base, .tup H, W, .int m, .tup (A1 ++ [bad] ++ A2), Z],
    .tup [.int base, .tup H, W, .int m, .tup (A1 ++ A3.reverse ++ A4), Z], .tup [.int base, .tup H, W, .int m, .tup (A1 ++ A3.reverse ++ A4), Z], .tup [.int base, .tup H, W, .int m, .tup R.reverse, Z], .tup [.int base, .tup H, W, .int m, .lst R, Z],
    .tup [.int base, .tup H, W, .int m, y3, Z], .tup [.int base, .tup H, W, .int m, .tup R, ore], .tup [.int base, .tup H, W, .int m, .tup R], .tup [.int base, .tup H, W, .int m, .tup R, Z, .int 0], .lst [.int base, .tup H, W, .int m, .tup R, Z], .tup [], .non, .int 0, .str "", .odd .emp, .bl true,
    .tup [.tup [.int base, .tup H, W, .int m, .tup R, Z]], .tup [.tup H, W, .int m, .tup R, Z]]) c4 d4
  have tx : tame x = true := by
    simp only [List.mem_cons, List.not_mem_nil, or_false] at n4
    have t5 : ∀ d ∈ [.int base, .tup H, W, .int m, .tup R, Z], tame d = true := fun d hd => by
      simp only [List.mem_cons, List.not_mem_nil, or_false] at hd
      rcases hd with rfl | rfl | rfl | rfl | rfl | rfl <;> assumption
    rcases n4 with rfl | rfl | rfl | rfl | rfl | rfl | rfl | rfl | rfl | rfl | rfl | rfl | rfl | rfl | rfl | rfl | rfl | rfl | rfl | rfl | rfl | rfl | rfl | rfl | rfl
    · exact t6 tO tTH tW tM tTR tZ
    · exact t6 ty1 tTH tW tM tTR tZ
    · exact t6 tB tHO tW tM tTR tZ
    · exact t6 tB ty2 tW tM tTR tZ
    · exact t6 tB tTH tO2 tM tTR tZ
    · exact t6 tB tTH tW tO tTR tZ
    · exact t6 tB tTH tW tM tTA tZ
    · exact t6 tB tTH tW tM tTA tZ
    · exact t6 tB tTH tW tM tNear tZ
    · exact t6 tB tTH tW tM tNear tZ
    · exact t6 tB tTH tW tM tRR tZ
    · exact t6 tB tTH tW tM tLR tZ
    · exact t6 tB tTH tW tM ty3 tZ
    · exact t6 tB tTH tW tM tTR tO3
    · exact tm_tup (fun d hd => t5 d (by simp only [List.mem_cons, List.not_mem_nil, or_false] at hd ⊢; rcases hd with rfl | rfl | rfl | rfl | rfl <;> simp)) (by simp)
    · exact tm_tup (fun d hd => by
        simp only [List.mem_cons, List.not_mem_nil, or_false] at hd
        rcases hd with rfl | rfl | rfl | rfl | rfl | rfl | rfl <;> first | assumption | rfl) (by simp)
    · exact tm_lst t5 (by simp)
    · rfl
    · rfl
    · rfl
    · rfl
    · rfl
    · rfl
    · exact tm_tup (tm_one tFm) (by simp)
    · exact tm_tup (fun d hd => t5 d (by simp only [List.mem_cons, List.not_mem_nil, or_false] at hd ⊢; rcases hd with rfl | rfl | rfl | rfl | rfl <;> simp)) (by simp)
  refine ⟨x, h4, ?_, tx, j4.le (by omega)⟩
  have n25 : ((25 : Nat) : Int) = 25 := rfl
  have o2 : (2 : Nat) < 16777216 := by decide
  have o3 : (3 : Nat) < 16777216 := by decide
  have o12 : (12 : Nat) < 16777216 := by decide
  have o13 : (13 : Nat) < 16777216 := by decide
  clear tx n4 tFm tLR tRR tTH tTR tHO tNear tTA u1 u2 u3 u4 u5 u6 k1 k2 k3 k4 k5 k6 ty1 ty2 ty3 tO tO2 tO3 tU tBad tM tB tW tZ tH tR rows0
  clear hg i8 i9 i10 i11 i13 i16 i18 j1 j2 j3 j4 a8 b8 a9 b9 b10 a11 b11 a13 b13 a16 b16 a18 b18 c1 d1 c2 d2 c3 d3 c4 d4 hN hb0 hb1 lH lR
  obtain ⟨hL1, hL2⟩ := hL
  by_cases hv : 0 < v10
  · obtain ⟨t, hL3, hL4⟩ := hL1 hv
    have hv2 : decide (0 < v10) = true := decide_eq_true hv
    clear hL1 hL2 hv a10
    unfold phi__law_bent_form g__law_bent_form
    walk_at "ev"
  · have hL3 := hL2 hv
    have hv2 : decide (0 < v10) = false := decide_eq_false hv
    subst hL3
    have n0 : (-1 : Int) + 1 = 0 := rfl
    rw [n0] at p16
    clear n0
    clear hL1 hL2 hv a10
    unfold phi__law_bent_form g__law_bent_form
    walk_at "ev"
end Dv

set_option Elab.async false
set_option linter.all false
set_option maxRecDepth 100000
set_option maxHeartbeats 4000000
namespace Dv
open PySem PySem.Spec PyProof.Rows L2
local macro_rules | `(tactic| walk_at "ev") => `(tactic| simp only [kRet_s, ev_name, ev_c, nm_val, nm_own, nm_bor, der_d, der_nw, der_sl, sl_own, sl_bor, sl_val, ev_bin, kBin_s, kBin2_s, kBin3_s, kBin4_s, ev_b1, kOne_s, kOne2_s, kRetD_s, ev_un, kUn1_s, kUn12_s, gNeg_i, ev_test, kTst_s, ev_and, ev_or, ev_not, kAnd_t, kAnd_f, kOr_t, kOr_f, kNot_s, ev_notV, kBl_s, ev_andV, ev_orV, kAndV_t, kAndV_f, kOrV_t, kOrV_f, ev_if, kIfE_t, kIfE_f, ev_yes, ev_ch, kCh_s, kCh2_s, kCh3_s, kCh4_s, kCh5_t, kCh5_f, ev_nil, ev_cons, kC1_s, kC2_s, ev_rev, kRv_s, escs_nil, escs_cons, kX1_s, kX2_s, esc_d, esc_nw, esc_sl, escS_own, escS_val, ev_tup, kT1_s, kT2_s, ev_lst, kL1_s, kL2_s, ev_pno, ev_pzero, ev_pint, kPI_s, ev_sl, kS1_s, kS2_s, kS3_s, kS4_s, ev_lrg, kR1_s, kR2_s, ev_call, kF1_s, kF2_s, kF3_s, ders_nil, ders_cons, kD1_s, kD2_s, rt_d, rt_nw, ev_call1, kG1_s, kG2_s, kG3_s, kG4_s, ow_own, ow_bor, put_own, put_bor, ev_iseq, kI1_s, kI2_t, kI2_l, kI2_f, ev_irg1, kN1_u, kN1_i, ev_irg2, kN2_s, kN3_u, ev_lc, kV1_s, kV2_s, ev_seq, kSeq_n, kSeq_r, kSeq_b, kSeq_c, ev_skip, ev_break, ev_cont, ev_retN, ev_ret, kRt_s, ev_sif, kIf_t, kIf_f, ev_drop, kDr_s, ev_set, kSt_s, kSt2_s, ev_own, kOw_s, ev_unp, kUn_s, kUn2_s, kNx_s, bt_nm, bt_tp, sa_nil, sa_cons, ev_par, kPa_s, sp_nil, sp_own, sp_val, ev_app, kAp_s, kAp2_s, kAp3_s, kAp4_s, ev_sti, kSi_s, kSi2_s, kSi3_s, kSi4_s, kSi5_s, kSi6_s, ev_aug, kAg_s, kAg2_s, val_s, ev_for, kFo_s, loop_nil, loop_cons, kLp_s, kLp_n, kLp_c, kLp_b, kLp_r, ev_while, while_s, kWh_f, kWh_t, kWh_n, kWh_c, kWh_b, kWh_r, lc_nil, lc_cons, kLc1_s, kLc2_t, kLc2_f, kLc3_s, kLc4_s, run0_k, kE0_r, kE0_n, rtOf_d, rtOf_nw, rtOf_sl, rtS_own, run1_k, kE1_r, kE1_n, kE2_s, bor_s, gAdd_i, gAdd_l, gAdd_t, gSub_i, gMul_i, gMod_i, gDiv_i, gPow_i, gEq_i, gEq_s, gEq_b, gCmp_i, gIs_n, gInt_i, gInt_b, gMax_i, gMin_i, gAbs_i, gTup_t, gTup_l, gLen_t, gLen_l, gLen_f, gIx_t, gIx_l, gIx_f, kIx_s, at_0, at_1, at_2, at_3, at_4, at_5, gSl_l, ev_emp,
  List.map_cons, List.map_nil, List.cons_append, List.nil_append, List.append_nil, List.length_cons, List.length_nil, List.replicate_succ, List.replicate_zero, Nat.reduceSub, Nat.reduceAdd, List.getElem?_cons_zero, List.getElem?_cons_succ, List.getElem?_nil, List.set_cons_zero, List.set_cons_succ, List.set_nil, Nat.zero_add, Nat.add_zero,
  List.all_cons, List.all_nil, notSl, Bool.and_true, Bool.true_and, Bool.or_true, Bool.true_or, Bool.and_false, Bool.false_and, Bool.or_false, Bool.false_or, if_true, if_false, Bool.false_eq_true, reduceIte, Bool.not_true, Bool.not_false, Bool.bne_true, Bool.bne_false, decide_true, decide_false, wipeE, backE, backS, nc_0, List.length_map, List.length_append, rg_len, Nat.reduceLeDiff, fd_ix, fi_ix, fi_len, fi_it, dcs, eq_self, Int.reduceEq, Int.reduceLT, Int.reduceLE, Int.reduceAdd, Int.reduceSub, Int.reduceMul, Int.reduceToNat, gIs_c, mkD_n, mkD_s, items, and_true, true_and, and_self, bne_self_eq_false, wt, gIn_t, gIsi_i, gIsi_t, gIsi_s, gIsi_n, gIsi_b, gIsi_l, isi2_c, gEq_n, gEq_l, ev_dk, kDk1_s, kDk2_s, kDk3_s, flatD, eqF_s, eqF_i, eqF_n, List.any_cons, List.any_nil, Rt.o, Option.bind_some, phi0_s, phi1_s, List.reverse_cons, List.reverse_nil, decide_eq_true_eq, kDk1_s, ev_izp, kZ1_s, kZ2_s, *])
/-! ### the law -/
theorem eqv_bl {k : Nat} {b : Bool} : phiR__law_equal (k + 1) [.bl b, .bl b] = some (.d (.bl true)) := by
  have e := gIsi_b (a := b)
  have e2 : gEq false (.bl b) (.bl b) = some (.d (.bl true)) := by
    show some (Opd.d (.bl (decide (b = b) != false))) = _
    rw [decide_eq_true rfl]; rfl
  show phi0 2 3 (g__law_equal (phiR__law_equal k)) _ = _
  unfold g__law_equal
  walk_at "ev"
theorem eq_bl {b : Bool} : phi__law_equal [.bl b, .bl b] = some (.d (.bl true)) := eqv_bl (k := 7)
theorem eq_tt : phi__law_equal [.lst [.bl true, .bl true], .lst [.bl true, .bl true]] = some (.d (.bl true)) := by
  refine eqv_lst (k := 7) (by simp) ?_
  simp only [List.forall_mem_cons, List.not_mem_nil, false_implies, implies_true, and_true]
  exact ⟨eqv_bl (k := 6), eqv_bl (k := 6)⟩
theorem any_form19 {g : Bag} {base N : Int} (hb : 2 ≤ base ∧ base ≤ 256) (hg : g.In N) (hN : N + 20000 < 2 ^ 60) :
    ∃ f g', phi__law_any_form [.lst g.d, .int base, .int 19] = some (.d (Frm.d f), Bag.d g') ∧ f.Ok ∧ f.base = base ∧ f.head.length ≤ 900 ∧ Bag.In g' (N + 6000) := by
  obtain ⟨v1, g1, q1, a1, b1, i1⟩ := grab_ok (n := 2) (by omega) (by omega) hg (by omega)
  obtain ⟨u1, p1, r1⟩ := pick2 (x := 3) (y := 19) a1 b1
  obtain ⟨v2, g2, q2, a2, b2, i2⟩ := grab_ok (n := 2) (by omega) (by omega) i1 (by omega)
  obtain ⟨u2, p2, r2⟩ := pick2 (x := 4) (y := 19) a2 b2
  obtain ⟨v3, g3, q3, a3, b3, i3⟩ := grab_ok (n := 3) (by omega) (by omega) i2 (by omega)
  obtain ⟨u3, p3, r3⟩ := pick3 (x := 5) (y := 40) (z := 65535) a3 b3
  obtain ⟨f, g4, q4, ok4, fb4, fl4, i4⟩ := drawn_form (marks := u1) (most := u3) (many := u2) hb (by omega) (by omega) (by omega) i3 (by omega)
  refine ⟨f, g4, ?_, ok4, fb4, fl4, i4.le (by omega)⟩
  clear i1 i2 i3 i4 a1 b1 a2 b2 a3 b3 r1 r2 r3 hg hN hb ok4 fb4 fl4
  unfold phi__law_any_form g__law_any_form
  walk_at "ev"
abbrev trA : FS := (sSeq (sSet 7 (fCall1 phi__law_bent_form (aCons (fName 2) (aCons (fName 5) aNil))))
    (sIf (fNot (fTest (fCall phi__law_equal (aCons (fCall phi_is_format (aCons (fName 7) aNil)) (aCons (fCall phi__law_is_form (aCons (fName 7) aNil)) aNil))))) (sRet (fC (.bl false))) sSkip))
abbrev trB1 : FS := (sSeq (sSet 7 (fCall1 phi__law_bent_file (aCons (fName 2) (aCons (fName 4) (aCons (fName 8) aNil)))))
    (sIf (fNot (fTest (fCall phi__law_equal (aCons (fCall phi_is_file (aCons (fName 5) (aCons (fName 7) aNil))) (aCons (fCall phi__law_is_signs (aCons (fName 4) (aCons (fName 7) aNil))) aNil))))) (sRet (fC (.bl false))) sSkip))
theorem loop_A {f : Frm} (o : f.Ok) {e0 e1 e3 e4 e8 e9 e10 e11 : Sl} : ∀ (ds : List D) (g : Bag) (N : Int) (c6 c7 : Sl), g.In N → N + 20 * (ds.length : Int) + 200 < 2 ^ 60 →
    ∃ (g' : Bag) (d6 d7 : Sl), loopD (.nm 6) trA ds [e0, e1, .own g.d, e3, e4, .val f.d, c6, c7, e8, e9, e10, e11] = some (.nx [e0, e1, .own g'.d, e3, e4, .val f.d, d6, d7, e8, e9, e10, e11]) ∧ g'.In (N + 20 * (ds.length : Int))
  | [], g, N, c6, c7, hg, _ => ⟨g, c6, c7, loop_nil, hg.le (by simp)⟩
  | d :: ds, g, N, c6, c7, hg, hN => by
    rw [List.length_cons] at hN
    obtain ⟨x, g1, q1, t1, i1⟩ := bent_form o hg (by omega)
    obtain ⟨g2, d6, d7, q2, i2⟩ := loop_A o (e0 := e0) (e1 := e1) (e3 := e3) (e4 := e4) (e8 := e8) (e9 := e9) (e10 := e10) (e11 := e11) ds g1 (N + 20) (.val d) (.val x) i1 (by omega)
    refine ⟨g2, d6, d7, ?_, i2.le (by rw [List.length_cons]; omega)⟩
    rw [← q2]
    have e1' := format_any (tame_k t1) (tame_b t1)
    have e2' := lform_any (tame_k t1) (tame_b t1)
    have e3' := eq_bl (b := fmtB x)
    clear q2 i2 i1 hg hN t1 o
    generalize fmtB x = w at *
    generalize f.d = F at *
    unfold trA
    walk_at "ev"
theorem loop_B {f : Frm} (o : f.Ok) {xs : List D} (ht : ∀ d ∈ xs, tame d = true) (hl : xs.length ≤ 1000) {e0 e1 e3 e9 e10 e11 : Sl} : ∀ (ds : List D) (g : Bag) (N : Int) (c6 c7 : Sl), g.In N → N + 20 * (ds.length : Int) + 200 < 2 ^ 60 →
    ∃ (g' : Bag) (d6 d7 : Sl), loopD (.nm 6) trB1 ds [e0, e1, .own g.d, e3, .val (.int f.base), .val f.d, c6, c7, .val (.tup xs), e9, e10, e11] = some (.nx [e0, e1, .own g'.d, e3, .val (.int f.base), .val f.d, d6, d7, .val (.tup xs), e9, e10, e11]) ∧ g'.In (N + 20 * (ds.length : Int))
  | [], g, N, c6, c7, hg, _ => ⟨g, c6, c7, loop_nil, hg.le (by simp)⟩
  | d :: ds, g, N, c6, c7, hg, hN => by
    rw [List.length_cons] at hN
    have hb0 : 2 ≤ f.base := o.b0
    have hb1 : f.base ≤ 256 := o.b1
    obtain ⟨x, g1, q1, t1, i1⟩ := bent_file (base := f.base) ⟨hb0, hb1⟩ hg (by omega) ht hl
    obtain ⟨g2, d6, d7, q2, i2⟩ := loop_B o ht hl (e0 := e0) (e1 := e1) (e3 := e3) (e9 := e9) (e10 := e10) (e11 := e11) ds g1 (N + 20) (.val d) (.val x) (i1.le (by omega)) (by omega)
    refine ⟨g2, d6, d7, ?_, i2.le (by rw [List.length_cons]; omega)⟩
    rw [← q2]
    have e1' := file_any o (tame_k t1) (tame_b t1)
    have e2' := lsigns_any (b := f.base) (tame_k t1) (tame_b t1)
    have e3' := eq_bl (b := sgsB f.base x)
    clear q2 i2 i1 hg hN t1 o hb0 hb1 ht hl
    generalize sgsB f.base x = w at *
    generalize f.d = F at *
    unfold trB1
    walk_at "ev"
noncomputable abbrev turn01 (C1 C2 : Addr) : FS := (sSeq (sSet 4 (fBin gIx (fLst (aCons (fC (.int 2)) (aCons (fC (.int 3)) (aCons (fC (.int 4)) (aCons (fC (.int 16)) (aCons (fC (.int 256)) (aCons (fBin gAdd (fC (.int 2)) (fCall1 phi__law_grab (aCons (fName 2) (aCons (fC (.int 255)) aNil)))) aNil))))))) (fCall1 phi__law_grab (aCons (fName 2) (aCons (fC (.int 6)) aNil)))))
    (sSeq (sSet 5 (fCall1 phi__law_any_form (aCons (fName 2) (aCons (fName 4) (aCons (fC (.int 19)) aNil)))))
    (sSeq (sIf (fNot (fTest (fCall phi__law_equal (aCons (fLst (aCons (fCall phi_is_format (aCons (fName 5) aNil)) (aCons (fCall phi_is_format (aRev (aCons (fName 5) aNil))) aNil))) (aCons (fLst (aCons (fC (.bl true)) (aCons (fC (.bl true)) aNil))) aNil))))) (sRet (fC (.bl false))) sSkip)
    (sSeq (sFor (iRg1 (pInt (fC (.int 8)))) (.nm 6) trA)
    (sSeq (sSet 8 (fB1 gTuple (fLc (iRg1 (pInt (fCall1 phi__law_grab (aCons (fName 2) (aCons (fBin gIx (fLst (aCons (fC (.int 9)) (aCons (fC (.int 200)) aNil))) (fCall1 phi__law_grab (aCons (fName 2) (aCons (fC (.int 2)) aNil)))) aNil))))) (.nm 11) fYes (fCall1 phi__law_grab (aCons (fName 2) (aCons (fName 4) aNil))) [11])))
    (sSeq (sSet 9 (fLst (aCons (fCall phi_is_file (aCons (fName 5) (aCons (fName 8) aNil))) (aCons (fCall phi_is_file (aRev (aCons (fName 8) (aCons (fName 5) aNil)))) aNil))))
    (sSeq (sIf (fNot (fTest (fCall phi__law_equal (aCons (fName 9) (aCons (fLst (aCons (fC (.bl true)) (aCons (fC (.bl true)) aNil))) aNil))))) (sRet (fC (.bl false))) sSkip)
    (sSeq (sFor (iRg1 (pInt (fC (.int 6)))) (.nm 6) trB1)
    (sSeq (sSet 10 (fTup (aCons (fC (.int 2)) (aCons (fTup aNil) (aCons (fC (.str "one")) (aCons (fC (.int 0)) (aCons (fTup aNil) (aCons (fC (.str "skip")) aNil))))))))
    (sFor (iSeq (fTup (aCons (fNew C1 argR (aCons (fName 10) aNil)) (aCons (fNew C2 argP (aCons (fName 10) (aCons (fName 10) aNil))) aNil)))) (.nm 7) (sIf (fOr (fTest (fBin (gIsB true) (fCall phi_is_format (aCons (fName 7) aNil)) (fC (.bl false)))) (fTest (fBin (gIsB true) (fCall phi_is_file (aCons (fName 5) (aCons (fName 7) aNil))) (fC (.bl false))))) (sRet (fC (.bl false))) sSkip)))))))))))
noncomputable abbrev outer01 (C1 C2 : Addr) : FS := (sSeq (sOwn 2 (fCall phi__law_bag (aCons (fName 0) (aCons (fName 1) aNil))))
    (sFor (iRg1 (pInt (fC (.int 5)))) (.nm 3) (turn01 C1 C2)))
end Dv

set_option Elab.async false
set_option linter.all false
set_option maxRecDepth 100000
set_option maxHeartbeats 4000000
namespace Dv
open PySem PySem.Spec PyProof.Rows L2
local macro_rules | `(tactic| walk_at "ev") => `(tactic| simp only [kRet_s, ev_name, ev_c, nm_val, nm_own, nm_bor, der_d, der_nw, der_sl, sl_own, sl_bor, sl_val, ev_bin, kBin_s, kBin2_s, kBin3_s, kBin4_s, ev_b1, kOne_s, kOne2_s, kRetD_s, ev_un, kUn1_s, kUn12_s, gNeg_i, ev_test, kTst_s, ev_and, ev_or, ev_not, kAnd_t, kAnd_f, kOr_t, kOr_f, kNot_s, ev_notV, kBl_s, ev_andV, ev_orV, kAndV_t, kAndV_f, kOrV_t, kOrV_f, ev_if, kIfE_t, kIfE_f, ev_yes, ev_ch, kCh_s, kCh2_s, kCh3_s, kCh4_s, kCh5_t, kCh5_f, ev_nil, ev_cons, kC1_s, kC2_s, ev_rev, kRv_s, escs_nil, escs_cons, kX1_s, kX2_s, esc_d, esc_nw, esc_sl, escS_own, escS_val, ev_tup, kT1_s, kT2_s, ev_lst, kL1_s, kL2_s, ev_pno, ev_pzero, ev_pint, kPI_s, ev_sl, kS1_s, kS2_s, kS3_s, kS4_s, ev_lrg, kR1_s, kR2_s, ev_call, kF1_s, kF2_s, kF3_s, ders_nil, ders_cons, kD1_s, kD2_s, rt_d, rt_nw, ev_call1, kG1_s, kG2_s, kG3_s, kG4_s, ow_own, ow_bor, put_own, put_bor, ev_iseq, kI1_s, kI2_t, kI2_l, kI2_f, ev_irg1, kN1_u, kN1_i, ev_irg2, kN2_s, kN3_u, ev_lc, kV1_s, kV2_s, ev_seq, kSeq_n, kSeq_r, kSeq_b, kSeq_c, ev_skip, ev_break, ev_cont, ev_retN, ev_ret, kRt_s, ev_sif, kIf_t, kIf_f, ev_drop, kDr_s, ev_set, kSt_s, kSt2_s, ev_own, kOw_s, ev_unp, kUn_s, kUn2_s, kNx_s, bt_nm, bt_tp, sa_nil, sa_cons, ev_par, kPa_s, sp_nil, sp_own, sp_val, ev_app, kAp_s, kAp2_s, kAp3_s, kAp4_s, ev_sti, kSi_s, kSi2_s, kSi3_s, kSi4_s, kSi5_s, kSi6_s, ev_aug, kAg_s, kAg2_s, val_s, ev_for, kFo_s, loop_nil, loop_cons, kLp_s, kLp_n, kLp_c, kLp_b, kLp_r, ev_while, while_s, kWh_f, kWh_t, kWh_n, kWh_c, kWh_b, kWh_r, lc_nil, lc_cons, kLc1_s, kLc2_t, kLc2_f, kLc3_s, kLc4_s, run0_k, kE0_r, kE0_n, rtOf_d, rtOf_nw, rtOf_sl, rtS_own, run1_k, kE1_r, kE1_n, kE2_s, bor_s, gAdd_i, gAdd_l, gAdd_t, gSub_i, gMul_i, gMod_i, gDiv_i, gPow_i, gEq_i, gEq_s, gEq_b, gCmp_i, gIs_n, gInt_i, gInt_b, gMax_i, gMin_i, gAbs_i, gTup_t, gTup_l, gLen_t, gLen_l, gLen_f, gIx_t, gIx_l, gIx_f, kIx_s, at_0, at_1, at_2, at_3, at_4, at_5, gSl_l, ev_emp,
  List.map_cons, List.map_nil, List.cons_append, List.nil_append, List.append_nil, List.length_cons, List.length_nil, List.replicate_succ, List.replicate_zero, Nat.reduceSub, Nat.reduceAdd, List.getElem?_cons_zero, List.getElem?_cons_succ, List.getElem?_nil, List.set_cons_zero, List.set_cons_succ, List.set_nil, Nat.zero_add, Nat.add_zero,
  List.all_cons, List.all_nil, notSl, Bool.and_true, Bool.true_and, Bool.or_true, Bool.true_or, Bool.and_false, Bool.false_and, Bool.or_false, Bool.false_or, if_true, if_false, Bool.false_eq_true, reduceIte, Bool.not_true, Bool.not_false, Bool.bne_true, Bool.bne_false, decide_true, decide_false, wipeE, backE, backS, nc_0, List.length_map, List.length_append, rg_len, Nat.reduceLeDiff, fd_ix, fi_ix, fi_len, fi_it, dcs, eq_self, Int.reduceEq, Int.reduceLT, Int.reduceLE, Int.reduceAdd, Int.reduceSub, Int.reduceMul, Int.reduceToNat, gIs_c, mkD_n, mkD_s, items, and_true, true_and, and_self, bne_self_eq_false, wt, gIn_t, gIsi_i, gIsi_t, gIsi_s, gIsi_n, gIsi_b, gIsi_l, isi2_c, gEq_n, gEq_l, ev_dk, kDk1_s, kDk2_s, kDk3_s, flatD, eqF_s, eqF_i, eqF_n, List.any_cons, List.any_nil, Rt.o, Option.bind_some, phi0_s, phi1_s, List.reverse_cons, List.reverse_nil, decide_eq_true_eq, kDk1_s, ev_izp, kZ1_s, kZ2_s, *])
theorem sg1_lc {base : Int} (hb : 0 < base ∧ base ≤ 256) {e0 e1 e3 e5 e6 e7 e8 e9 e10 : Sl} : ∀ (ds : List D) (g : Bag) (N : Int) (acc : List D), (∀ d ∈ ds, ∃ i : Int, d = .int i) → acc.length + ds.length ≤ 16777216 → g.In N → N + ds.length < 2 ^ 60 →
    ∃ (xs : List Int) (g' : Bag), lcD (.nm 11) fYes (fCall1 phi__law_grab (aCons (fName 2) (aCons (fName 4) aNil))) [11] ds [e0, e1, .own g.d, e3, .val (.int base), e5, e6, e7, e8, e9, e10, .un] acc = some (acc ++ xs.map D.int, [e0, e1, .own g'.d, e3, .val (.int base), e5, e6, e7, e8, e9, e10, .un]) ∧ xs.length = ds.length ∧ (∀ x ∈ xs, 0 ≤ x ∧ x < base) ∧ Bag.In g' (N + ds.length)
  | [], g, N, acc, _, _, hg, _ => ⟨[], g, by rw [lc_nil, List.map_nil, List.append_nil], rfl, (fun _ h => nomatch h), hg.le (by simp)⟩
  | d :: ds, g, N, acc, hd, hl, hg, hN => by
    rw [List.length_cons] at hl hN
    obtain ⟨v, g1, q1, a1, b1, i1⟩ := grab_ok (n := base) (by omega) (by omega) hg (by omega)
    obtain ⟨xs, g2, e2, l2, h2, i2⟩ := sg1_lc hb (e0 := e0) (e1 := e1) (e3 := e3) (e5 := e5) (e6 := e6) (e7 := e7) (e8 := e8) (e9 := e9) (e10 := e10) ds g1 (N + 1) (acc ++ [.int v]) (fun z hz => hd z (by simp [hz])) (by rw [List.length_append, List.length_singleton]; omega) i1 (by omega)
    obtain ⟨i, rfl⟩ := hd d (by simp)
    refine ⟨v :: xs, g2, ?_, by simp [l2], fun x hx => ?_, i2.le (by rw [List.length_cons]; omega)⟩
    · have hla : acc.length < 16777216 := by omega
      rw [List.map_cons, show ∀ r, acc ++ D.int v :: r = (acc ++ [.int v]) ++ r from fun r => by simp, ← e2]
      clear e2 hd hl hN hg i1 i2 h2 l2 a1 b1 hb
      walk_at "ev"
    · rcases List.mem_cons.mp hx with rfl | hx
      · exact ⟨a1, b1⟩
      · exact h2 x hx
theorem base_pick6 {v w : Int} (h0 : 0 ≤ v) (h1 : v < 6) (w0 : 0 ≤ w) (w1 : w < 255) : ∃ u : Int, atI [D.int 2, .int 3, .int 4, .int 16, .int 256, .int (2 + w)] v = some (.int u) ∧ 2 ≤ u ∧ u ≤ 256 := by
  have : v = 0 ∨ v = 1 ∨ v = 2 ∨ v = 3 ∨ v = 4 ∨ v = 5 := by omega
  rcases this with rfl | rfl | rfl | rfl | rfl | rfl
  · exact ⟨2, rfl, by omega, by omega⟩
  · exact ⟨3, rfl, by omega, by omega⟩
  · exact ⟨4, rfl, by omega, by omega⟩
  · exact ⟨16, rfl, by omega, by omega⟩
  · exact ⟨256, rfl, by omega, by omega⟩
  · exact ⟨2 + w, rfl, by omega, by omega⟩
def nrF : Frm := ⟨2, [], .one, 0, [], .skip⟩
theorem nrF_ok : nrF.Ok := ⟨by decide, by decide, (fun _ h => nomatch h), by decide, by decide, by decide, (fun _ h => nomatch h), .nil, by decide⟩
abbrev nrD : D := .tup [.int 2, .tup [], .str "one", .int 0, .tup [], .str "skip"]
open Classical in
theorem new1 {C1 : Addr} (x0 x1 x2 x3 x4 x5 x6 x7 x8 x9 x11 : Sl) : fNew C1 argR (aCons (fName 10) aNil) [x0, x1, x2, x3, x4, x5, x6, x7, x8, x9, .val nrD, x11] = some (.d (.odd (.ins C1)), [x0, x1, x2, x3, x4, x5, x6, x7, x8, x9, .val nrD, x11]) := by
  show (if argR [nrD] ∧ noLs [nrD] = true then some (Opd.d (.odd (.ins C1)), _) else none) = _
  exact if_pos ⟨⟨nrF, rfl, nrF_ok⟩, rfl⟩
open Classical in
theorem new2 {C2 : Addr} (x0 x1 x2 x3 x4 x5 x6 x7 x8 x9 x11 : Sl) : fNew C2 argP (aCons (fName 10) (aCons (fName 10) aNil)) [x0, x1, x2, x3, x4, x5, x6, x7, x8, x9, .val nrD, x11] = some (.d (.odd (.ins C2)), [x0, x1, x2, x3, x4, x5, x6, x7, x8, x9, .val nrD, x11]) := by
  show (if argP [nrD, nrD] ∧ noLs [nrD, nrD] = true then some (Opd.d (.odd (.ins C2)), _) else none) = _
  exact if_pos ⟨⟨nrF, rfl, nrF_ok⟩, rfl⟩
theorem turn_ok {C1 C2 : Addr} {g : Bag} {N : Int} (hg : g.In N) (hN : N + 30000 < 2 ^ 60) (x0 x1 x3 x4 x5 x6 x7 x8 x9 x10 : Sl) :
    ∃ (g' : Bag) (y4 y5 y6 y7 y8 y9 y10 : Sl), turn01 C1 C2 [x0, x1, .own g.d, x3, x4, x5, x6, x7, x8, x9, x10, .un] = some (.nx [x0, x1, .own g'.d, x3, y4, y5, y6, y7, y8, y9, y10, .un]) ∧ g'.In (N + 20000) := by
  obtain ⟨v0, g0, q0, a0, b0, i0⟩ := grab_ok (n := 255) (by omega) (by omega) hg (by omega)
  obtain ⟨v1, g1, q1, a1, b1, i1⟩ := grab_ok (n := 6) (by omega) (by omega) i0 (by omega)
  obtain ⟨base, p1, r1, r2⟩ := base_pick6 a1 b1 a0 b0
  obtain ⟨f, g2, q2, o, fb, _, i2⟩ := any_form19 (base := base) ⟨r1, r2⟩ i1 (by omega)
  have t1 := form_ok o
  have t2 := eq_tt
  obtain ⟨g3, c6, c7, q3, i3⟩ := loop_A o (e0 := x0) (e1 := x1) (e3 := x3) (e4 := .val (.int base)) (e8 := x8) (e9 := x9) (e10 := x10) (e11 := .un) (rgD 0 8) g2 (N + 6002) x6 x7 (i2.le (by omega)) (by rw [rg_len]; omega)
  rw [rg_len] at i3
  obtain ⟨v4, g4, q4, a4, b4, i4⟩ := grab_ok (n := 2) (by omega) (by omega) i3 (by omega)
  obtain ⟨u, p4, r4⟩ := pick2 (x := 9) (y := 200) a4 b4
  obtain ⟨v5, g5, q5, a5, b5, i5⟩ := grab_ok (n := u) (by omega) (by omega) i4 (by omega)
  obtain ⟨xs, g6, q6, l6, h6, i6⟩ := sg1_lc (base := base) ⟨by omega, r2⟩ (e0 := x0) (e1 := x1) (e3 := x3) (e5 := .val f.d) (e6 := c6) (e7 := c7) (e8 := x8) (e9 := x9) (e10 := x10) (rgD 0 v5.toNat) g5 (N + 6200) [] (fun d hd => by
    obtain ⟨j, _, rfl⟩ := rg_mem hd
    exact ⟨_, rfl⟩) (by rw [rg_len]; simp; omega) (i5.le (by omega)) (by rw [rg_len]; omega)
  rw [rg_len] at l6 i6
  rw [List.nil_append] at q6
  subst fb
  have t3 : phi_is_file [f.d, .tup (xs.map D.int)] = some (.d (.bl true)) := by
    rw [file_any o (tame_k (tm_tup (fun d hd => by obtain ⟨x, _, rfl⟩ := List.mem_map.mp hd; rfl) (by rw [List.length_map]; omega))) (tame_b (tm_tup (fun d hd => by obtain ⟨x, _, rfl⟩ := List.mem_map.mp hd; rfl) (by rw [List.length_map]; omega)))]
    have : sgsB f.base (.tup (xs.map D.int)) = true := by
      show (xs.map D.int).all (sgn f.base) = true
      rw [List.all_eq_true]
      intro d hd
      obtain ⟨x, hx, rfl⟩ := List.mem_map.mp hd
      have := h6 x hx
      show (decide (0 ≤ x) && decide (x < f.base)) = true
      rw [decide_eq_true this.1, decide_eq_true this.2]; rfl
    rw [this]
  obtain ⟨g7, d6, d7, q7, i7⟩ := loop_B o (xs := xs.map D.int) (fun d hd => by obtain ⟨x, _, rfl⟩ := List.mem_map.mp hd; rfl) (by rw [List.length_map]; omega) (e0 := x0) (e1 := x1) (e3 := x3) (e9 := .val (.lst [.bl true, .bl true])) (e10 := x10) (e11 := .un) (rgD 0 6) g6 (N + 7000) c6 c7 (i6.le (by omega)) (by rw [rg_len]; omega)
  rw [rg_len] at i7
  have n1 : 0 ≤ v5 := a5
  have n2 : v5 ≤ 16777216 := by omega
  have ll : (xs.map D.int).length ≤ 16777216 := by rw [List.length_map]; omega
  have s1 : phi_is_format [.odd (.ins C1)] = some (.d (.bl false)) := format_any rfl rfl
  have s2 : phi_is_format [.odd (.ins C2)] = some (.d (.bl false)) := format_any rfl rfl
  have s3 : phi_is_file [f.d, .odd (.ins C1)] = some (.d (.bl false)) := file_any o rfl rfl
  have s4 : phi_is_file [f.d, .odd (.ins C2)] = some (.d (.bl false)) := file_any o rfl rfl
  have s5 : gIsB true (.bl false) (.bl false) = some (.d (.bl false)) := rfl
  have w1 := @new1 C1
  have w2 := @new2 C2
  refine ⟨g7, .val (.int f.base), .val f.d, d6, .val (.odd (.ins C2)), .val (.tup (xs.map D.int)), .val (.lst [.bl true, .bl true]), .val nrD, ?_, i7.le (by omega)⟩
  clear i0 i1 i2 i3 i4 i5 i6 i7 hg hN a0 b0 a1 b1 r1 r2 a4 b4 r4 a5 b5 h6 l6 o
  generalize xs.map D.int = Y at *
  generalize f.d = F at *
  generalize f.base = B at *
  unfold turn01
  walk_at "ev"
theorem turns {C1 C2 : Addr} : ∀ (ds : List D) (g : Bag) (N : Int), g.In N → N + 20000 * (ds.length : Int) + 30000 < 2 ^ 60 → ∀ (x0 x1 x3 x4 x5 x6 x7 x8 x9 x10 : Sl),
    ∃ (g' : Bag) (y3 y4 y5 y6 y7 y8 y9 y10 : Sl), loopD (.nm 3) (turn01 C1 C2) ds [x0, x1, .own g.d, x3, x4, x5, x6, x7, x8, x9, x10, .un] = some (.nx [x0, x1, .own g'.d, y3, y4, y5, y6, y7, y8, y9, y10, .un])
  | [], g, N, _, _, x0, x1, x3, x4, x5, x6, x7, x8, x9, x10 => ⟨g, x3, x4, x5, x6, x7, x8, x9, x10, loop_nil⟩
  | d :: ds, g, N, hg, hN, x0, x1, x3, x4, x5, x6, x7, x8, x9, x10 => by
    rw [List.length_cons] at hN
    obtain ⟨g1, y4, y5, y6, y7, y8, y9, y10, q1, i1⟩ := turn_ok (C1 := C1) (C2 := C2) hg (by omega) x0 x1 (.val d) x4 x5 x6 x7 x8 x9 x10
    obtain ⟨g2, z3, z4, z5, z6, z7, z8, z9, z10, q2⟩ := turns (C1 := C1) (C2 := C2) ds g1 (N + 20000) i1 (by omega) x0 x1 (.val d) y4 y5 y6 y7 y8 y9 y10
    refine ⟨g2, z3, z4, z5, z6, z7, z8, z9, z10, ?_⟩
    rw [← q2]
    clear q2 i1 hg hN
    generalize hT : turn01 C1 C2 = T at *
    clear hT
    walk_at "ev"
theorem outers {C1 C2 : Addr} {ns : List Int} : ∀ (js : List Nat), (∀ j ∈ js, j ≤ 1000) → ∀ (x1 x2 x3 x4 x5 x6 x7 x8 x9 x10 : Sl),
    ∃ (y1 y2 y3 y4 y5 y6 y7 y8 y9 y10 : Sl), loopD (.nm 1) (outer01 C1 C2) (js.map fun j : Nat => D.int (j : Int)) [.val (.frl (ns.map D.int)), x1, x2, x3, x4, x5, x6, x7, x8, x9, x10, .un] = some (.nx [.val (.frl (ns.map D.int)), y1, y2, y3, y4, y5, y6, y7, y8, y9, y10, .un])
  | [], _, x1, x2, x3, x4, x5, x6, x7, x8, x9, x10 => ⟨x1, x2, x3, x4, x5, x6, x7, x8, x9, x10, loop_nil⟩
  | j :: js, hj, x1, x2, x3, x4, x5, x6, x7, x8, x9, x10 => by
    obtain ⟨g, qb, ib⟩ := law_bag (ns := ns) (at' := j) (hj j (by simp))
    obtain ⟨g1, y3, y4, y5, y6, y7, y8, y9, y10, q1⟩ := turns (C1 := C1) (C2 := C2) (rgD 0 5) g 0 ib (by rw [rg_len]; omega) (.val (.frl (ns.map D.int))) (.val (.int (j : Int))) x3 x4 x5 x6 x7 x8 x9 x10
    obtain ⟨z1, z2, z3, z4, z5, z6, z7, z8, z9, z10, q2⟩ := outers (C1 := C1) (C2 := C2) (ns := ns) js (fun i hi => hj i (by simp [hi])) (.val (.int (j : Int))) (.own g1.d) y3 y4 y5 y6 y7 y8 y9 y10
    refine ⟨z1, z2, z3, z4, z5, z6, z7, z8, z9, z10, ?_⟩
    rw [List.map_cons, ← q2]
    clear q2 ib hj
    unfold outer01
    generalize hT : turn01 C1 C2 = T at *
    clear hT
    walk_at "ev"
end Dv

set_option Elab.async false
set_option linter.all false
set_option maxRecDepth 100000
set_option maxHeartbeats 4000000
namespace Dv
open PySem PySem.Spec PyProof.Rows L2
local macro_rules | `(tactic| walk_at "ev") => `(tactic| simp only [kRet_s, ev_name, ev_c, nm_val, nm_own, nm_bor, der_d, der_nw, der_sl, sl_own, sl_bor, sl_val, ev_bin, kBin_s, kBin2_s, kBin3_s, kBin4_s, ev_b1, kOne_s, kOne2_s, kRetD_s, ev_un, kUn1_s, kUn12_s, gNeg_i, ev_test, kTst_s, ev_and, ev_or, ev_not, kAnd_t, kAnd_f, kOr_t, kOr_f, kNot_s, ev_notV, kBl_s, ev_andV, ev_orV, kAndV_t, kAndV_f, kOrV_t, kOrV_f, ev_if, kIfE_t, kIfE_f, ev_yes, ev_ch, kCh_s, kCh2_s, kCh3_s, kCh4_s, kCh5_t, kCh5_f, ev_nil, ev_cons, kC1_s, kC2_s, ev_rev, kRv_s, escs_nil, escs_cons, kX1_s, kX2_s, esc_d, esc_nw, esc_sl, escS_own, escS_val, ev_tup, kT1_s, kT2_s, ev_lst, kL1_s, kL2_s, ev_pno, ev_pzero, ev_pint, kPI_s, ev_sl, kS1_s, kS2_s, kS3_s, kS4_s, ev_lrg, kR1_s, kR2_s, ev_call, kF1_s, kF2_s, kF3_s, ders_nil, ders_cons, kD1_s, kD2_s, rt_d, rt_nw, ev_call1, kG1_s, kG2_s, kG3_s, kG4_s, ow_own, ow_bor, put_own, put_bor, ev_iseq, kI1_s, kI2_t, kI2_l, kI2_f, ev_irg1, kN1_u, kN1_i, ev_irg2, kN2_s, kN3_u, ev_lc, kV1_s, kV2_s, ev_seq, kSeq_n, kSeq_r, kSeq_b, kSeq_c, ev_skip, ev_break, ev_cont, ev_retN, ev_ret, kRt_s, ev_sif, kIf_t, kIf_f, ev_drop, kDr_s, ev_set, kSt_s, kSt2_s, ev_own, kOw_s, ev_unp, kUn_s, kUn2_s, kNx_s, bt_nm, bt_tp, sa_nil, sa_cons, ev_par, kPa_s, sp_nil, sp_own, sp_val, ev_app, kAp_s, kAp2_s, kAp3_s, kAp4_s, ev_sti, kSi_s, kSi2_s, kSi3_s, kSi4_s, kSi5_s, kSi6_s, ev_aug, kAg_s, kAg2_s, val_s, ev_for, kFo_s, loop_nil, loop_cons, kLp_s, kLp_n, kLp_c, kLp_b, kLp_r, ev_while, while_s, kWh_f, kWh_t, kWh_n, kWh_c, kWh_b, kWh_r, lc_nil, lc_cons, kLc1_s, kLc2_t, kLc2_f, kLc3_s, kLc4_s, run0_k, kE0_r, kE0_n, rtOf_d, rtOf_nw, rtOf_sl, rtS_own, run1_k, kE1_r, kE1_n, kE2_s, bor_s, gAdd_i, gAdd_l, gAdd_t, gSub_i, gMul_i, gMod_i, gDiv_i, gPow_i, gEq_i, gEq_s, gEq_b, gCmp_i, gIs_n, gInt_i, gInt_b, gMax_i, gMin_i, gAbs_i, gTup_t, gTup_l, gLen_t, gLen_l, gLen_f, gIx_t, gIx_l, gIx_f, kIx_s, at_0, at_1, at_2, at_3, at_4, at_5, gSl_l, ev_emp,
  List.map_cons, List.map_nil, List.cons_append, List.nil_append, List.append_nil, List.length_cons, List.length_nil, List.replicate_succ, List.replicate_zero, Nat.reduceSub, Nat.reduceAdd, List.getElem?_cons_zero, List.getElem?_cons_succ, List.getElem?_nil, List.set_cons_zero, List.set_cons_succ, List.set_nil, Nat.zero_add, Nat.add_zero,
  List.all_cons, List.all_nil, notSl, Bool.and_true, Bool.true_and, Bool.or_true, Bool.true_or, Bool.and_false, Bool.false_and, Bool.or_false, Bool.false_or, if_true, if_false, Bool.false_eq_true, reduceIte, Bool.not_true, Bool.not_false, Bool.bne_true, Bool.bne_false, decide_true, decide_false, wipeE, backE, backS, nc_0, List.length_map, List.length_append, rg_len, Nat.reduceLeDiff, fd_ix, fi_ix, fi_len, fi_it, dcs, eq_self, Int.reduceEq, Int.reduceLT, Int.reduceLE, Int.reduceAdd, Int.reduceSub, Int.reduceMul, Int.reduceToNat, gIs_c, mkD_n, mkD_s, items, and_true, true_and, and_self, bne_self_eq_false, wt, gIn_t, gIsi_i, gIsi_t, gIsi_s, gIsi_n, gIsi_b, gIsi_l, isi2_c, gEq_n, gEq_l, ev_dk, kDk1_s, kDk2_s, kDk3_s, flatD, eqF_s, eqF_i, eqF_n, List.any_cons, List.any_nil, Rt.o, Option.bind_some, phi0_s, phi1_s, List.reverse_cons, List.reverse_nil, decide_eq_true_eq, kDk1_s, ev_izp, kZ1_s, kZ2_s, *])
abbrev bdD : D := .tup [.int 4, .tup [], .str "one", .int 3, .tup [.tup [.int 0, .str "keep"], .tup [.int 3, .str "skip"], .tup [.int 1, .str "end"]], .str "skip"]
theorem bd_no : phi_is_format [bdD] = some (.d (.bl false)) := by
  rw [format_any (d := bdD) (by decide +kernel) (by decide +kernel), show fmtB bdD = false by decide +kernel]
theorem nr_yes : phi_is_format [nrD] = some (.d (.bl true)) := by
  have h := form_ok nrF_ok
  rw [show nrF.d = nrD from rfl] at h
  exact h
theorem nr_file : phi_is_file [nrD, .tup []] = some (.d (.bl true)) := by
  have h := file_any (f := nrF) (d := .tup []) nrF_ok rfl (by decide +kernel)
  rw [show sgsB nrF.base (.tup []) = true from rfl] at h
  exact h
theorem K01_true (C1 C2 : Addr) (ns : List Int) (h : ns.length ≤ 63) : phi_law_01 C1 C2 [.frl (ns.map D.int)] = some (.d (.bl true)) := by
  obtain ⟨m, hm, m0, m1⟩ := min_cut2 (x := 6) (y := (ns.length : Int)) (by omega) (by omega)
  obtain ⟨n, hn, n0, n1⟩ : ∃ n : Int, (if m > 1 then m else 1) = n ∧ 0 ≤ n ∧ n ≤ 1000 := by
    by_cases h2 : m > 1
    · exact ⟨m, if_pos h2, by omega, by omega⟩
    · exact ⟨1, if_neg h2, by omega, by omega⟩
  obtain ⟨y1, y2, y3, y4, y5, y6, y7, y8, y9, y10, e⟩ := outers (C1 := C1) (C2 := C2) (ns := ns) (List.range' 0 n.toNat) (fun j hj => by
    have := List.mem_range'.mp hj
    obtain ⟨i, hi, rfl⟩ := this
    omega) .un .un .un .un .un .un .un .un .un .un
  rw [← rg_range] at e
  have e1 := bd_no
  have e2 := nr_yes
  have e3 := nr_file
  have s1 : gIsB true (.bl false) (.bl false) = some (.d (.bl false)) := rfl
  have s2 : gIsB false (.bl true) (.bl true) = some (.d (.bl true)) := rfl
  have n2 : n ≤ 16777216 := by omega
  clear m0 m1 n1 h
  unfold outer01 turn01 trA trB1 at e
  unfold phi_law_01 g_law_01
  walk_at "ev"
end Dv

set_option Elab.async false
set_option linter.all false
set_option maxRecDepth 100000
set_option maxHeartbeats 8000000
namespace Dv.K01
open PySem PySem.Spec PyProof.Rows L2 StX
def topS (i : Nat) : Stmt := PySem.Challenge.pw_bothreaders_k01_formats_and_files_judged.main.body.getD i (.Pass ⟨0, 0, 0, 0⟩)
local macro_rules | `(tactic| walk_at "ev") => `(tactic| simp only [kRet_s, ev_name, ev_c, nm_val, nm_own, nm_bor, der_d, der_nw, der_sl, sl_own, sl_bor, sl_val, ev_bin, kBin_s, kBin2_s, kBin3_s, kBin4_s, ev_b1, kOne_s, kOne2_s, kRetD_s, ev_un, kUn1_s, kUn12_s, gNeg_i, ev_test, kTst_s, ev_and, ev_or, ev_not, kAnd_t, kAnd_f, kOr_t, kOr_f, kNot_s, ev_notV, kBl_s, ev_andV, ev_orV, kAndV_t, kAndV_f, kOrV_t, kOrV_f, ev_if, kIfE_t, kIfE_f, ev_yes, ev_ch, kCh_s, kCh2_s, kCh3_s, kCh4_s, kCh5_t, kCh5_f, ev_nil, ev_cons, kC1_s, kC2_s, ev_rev, kRv_s, escs_nil, escs_cons, kX1_s, kX2_s, esc_d, esc_nw, esc_sl, escS_own, escS_val, ev_tup, kT1_s, kT2_s, ev_lst, kL1_s, kL2_s, ev_pno, ev_pzero, ev_pint, kPI_s, ev_sl, kS1_s, kS2_s, kS3_s, kS4_s, ev_lrg, kR1_s, kR2_s, ev_call, kF1_s, kF2_s, kF3_s, ders_nil, ders_cons, kD1_s, kD2_s, rt_d, rt_nw, ev_call1, kG1_s, kG2_s, kG3_s, kG4_s, ow_own, ow_bor, put_own, put_bor, ev_iseq, kI1_s, kI2_t, kI2_l, kI2_f, ev_irg1, kN1_u, kN1_i, ev_irg2, kN2_s, kN3_u, ev_lc, kV1_s, kV2_s, ev_seq, kSeq_n, kSeq_r, kSeq_b, kSeq_c, ev_skip, ev_break, ev_cont, ev_retN, ev_ret, kRt_s, ev_sif, kIf_t, kIf_f, ev_drop, kDr_s, ev_set, kSt_s, kSt2_s, ev_own, kOw_s, ev_unp, kUn_s, kUn2_s, kNx_s, bt_nm, bt_tp, sa_nil, sa_cons, ev_par, kPa_s, sp_nil, sp_own, sp_val, ev_app, kAp_s, kAp2_s, kAp3_s, kAp4_s, ev_sti, kSi_s, kSi2_s, kSi3_s, kSi4_s, kSi5_s, kSi6_s, ev_aug, kAg_s, kAg2_s, val_s, ev_for, kFo_s, loop_nil, loop_cons, kLp_s, kLp_n, kLp_c, kLp_b, kLp_r, ev_while, while_s, kWh_f, kWh_t, kWh_n, kWh_c, kWh_b, kWh_r, lc_nil, lc_cons, kLc1_s, kLc2_t, kLc2_f, kLc3_s, kLc4_s, run0_k, kE0_r, kE0_n, rtOf_d, rtOf_nw, rtOf_sl, rtS_own, run1_k, kE1_r, kE1_n, kE2_s, bor_s, gAdd_i, gAdd_l, gAdd_t, gSub_i, gMul_i, gMod_i, gDiv_i, gPow_i, gEq_i, gEq_s, gEq_b, gCmp_i, gIs_n, gInt_i, gInt_b, gMax_i, gMin_i, gAbs_i, gTup_t, gTup_l, gLen_t, gLen_l, gLen_f, gIx_t, gIx_l, gIx_f, kIx_s, at_0, at_1, at_2, at_3, at_4, at_5, gSl_l, ev_emp,
  List.map_cons, List.map_nil, List.cons_append, List.nil_append, List.append_nil, List.length_cons, List.length_nil, List.replicate_succ, List.replicate_zero, Nat.reduceSub, Nat.reduceAdd, List.getElem?_cons_zero, List.getElem?_cons_succ, List.getElem?_nil, List.set_cons_zero, List.set_cons_succ, List.set_nil, Nat.zero_add, Nat.add_zero,
  List.all_cons, List.all_nil, notSl, Bool.and_true, Bool.true_and, Bool.or_true, Bool.true_or, Bool.and_false, Bool.false_and, Bool.or_false, Bool.false_or, if_true, if_false, Bool.false_eq_true, reduceIte, Bool.not_true, Bool.not_false, Bool.bne_true, Bool.bne_false, decide_true, decide_false, wipeE, backE, backS, nc_0, List.length_map, List.length_append, rg_len, Nat.reduceLeDiff, fd_ix, fi_ix, fi_len, fi_it, dcs, eq_self, Int.reduceEq, Int.reduceLT, Int.reduceLE, Int.reduceAdd, Int.reduceSub, Int.reduceMul, Int.reduceToNat, gIs_c, mkD_n, mkD_s, items, and_true, true_and, and_self, bne_self_eq_false, wt, gIn_t, gIsi_i, gIsi_t, gIsi_s, gIsi_n, gIsi_b, gIsi_l, isi2_c, gEq_n, gEq_l, ev_dk, kDk1_s, kDk2_s, kDk3_s, flatD, eqF_s, eqF_i, eqF_n, List.any_cons, List.any_nil, Rt.o, Option.bind_some, phi0_s, phi1_s, List.reverse_cons, List.reverse_nil, decide_eq_true_eq, kDk1_s, ev_izp, kZ1_s, kZ2_s, *])
abbrev s_rinit : Stmt := inClass (topS 102) 0
abbrev s_pinit : Stmt := inClass (topS 103) 0
theorem sc_rinit : FnScope ["self", "form"] ["self", "form"] (defScope s_rinit) := ⟨rfl, rfl, rfl, by decide +kernel, rfl, by decide +kernel, by decide +kernel⟩
theorem sc_pinit : FnScope ["self", "one", "other"] ["self", "one", "other"] (defScope s_pinit) := ⟨rfl, rfl, rfl, by decide +kernel, rfl, by decide +kernel, by decide +kernel⟩
abbrev N0 : AP := fun _ => False
theorem ol00 {H : Hp} : OL N0 H := fun _ h => h.elim
theorem two_ok {f : Frm} (o : f.Ok) : phi_check_two_formats [f.d, f.d] = some (.d .non) := by
  have e := cform_ok o
  unfold phi_check_two_formats g_check_two_formats
  walk_at "ev"
theorem same_ok {f : Frm} (o : f.Ok) : phi_check_same_base [f.d, f.d] = some (.d .non) := by
  have e : gIx f.d (.int 0) = some (.d (.int f.base)) := rfl
  have e2 : gEq true (.int f.base) (.int f.base) = some (.d (.bl false)) := by
    show some (Opd.d (.bl (decide (f.base = f.base) != true))) = _
    rw [decide_eq_true rfl]; rfl
  clear o
  generalize f.d = F at *
  unfold phi_check_same_base g_check_same_base
  walk_at "ev"
/-- what the classes must have -/
structure Pcl (K : PySem.W.Frag) (C : Addr) : Prop where
  cl : Cls K C
  no : NoAttr K C "_one"
  nt : NoAttr K C "_other"
section
variable {P : Program} {w : World} {K : PySem.W.Frag} {mg : Str → Option Value} {base : Heap}
theorem ok_pinit {k k1 k2 : Nat} {fa C : Addr} {fd : FuncData} (F : Fun K "__init__" "Pair.__init__" s_pinit fa fd) (T : Pcl K C) (hk1 : k1 ≤ k) (hk2 : k2 ≤ k)
    (cc : Cal P w K mg base k1 "check_two_formats" ["one", "other"] (spF0 K 2 phi_check_two_formats)) (cs : Cal P w K mg base k2 "check_same_base" ["one", "other"] (spF0 K 2 phi_check_same_base)) : FnOk P w K mg base CX0 (k + 1) fa fd ["self", "one", "other"] (spNew K C argP) := by
  refine F.ok sc_pinit (fun vs H Q E h => ?_) (fun cdv A outer s H vs Q E hr h => ?_)
  · obtain ⟨p, dx, rest, ds, rfl, _, ⟨f, rfl, _⟩, r, _⟩ := h
    have := r.len
    show rest.length + 1 = 3
    rw [← this]; rfl
  · obtain ⟨p, dx, rest, ds, rfl, hp, ⟨f, rfl, o⟩, r, kq⟩ := h
    rw [Reps] at r
    obtain ⟨v0, r', rfl, r1, r⟩ := r
    rw [Reps] at r
    obtain ⟨v1, r'', rfl, r2, r⟩ := r
    rw [Reps] at r
    subst r
    obtain ⟨f1, fd1, m1, kp1, F1, b1, _⟩ := cc.ex
    obtain ⟨f2, fd2, m2, kp2, F2, b2, _⟩ := cs.ex
    refine ⟨_, pss_cons (ps_expr (pe_call F1 (hr.mono hk1) rfl m1 kp1 b1 .nil pass0 (pa_cons (pv 1) (pa_cons (pv 2) pa_nil)))) (pss_cons (ps_expr (pe_call F2 (hr.mono hk2) rfl m2 kp2 b2 .nil pass0 (pa_cons (pv 1) (pa_cons (pv 2) pa_nil))))
      (pss_cons (ps_fld (pv 0) (pv 1) rfl) (pss_one (ps_fld (pv 0) (pv 2) rfl)))), ?_⟩
    refine ⟨v0, rfl, v1, rfl, rfl, N0, [f.d, f.d], .d .non, two_ok o, ol00, .cons r1 (.cons r2 .nil), fun v2 H1 k1 _ => ?_⟩
    have s1 : Rep K H1 N0 f.d v0 := r1.keep (fun b o h _ => k1 b o h) ol00 fun _ h => h
    have s2 : Rep K H1 N0 f.d v1 := r2.keep (fun b o h _ => k1 b o h) ol00 fun _ h => h
    refine ⟨v0, rfl, v1, rfl, rfl, N0, [f.d, f.d], .d .non, same_ok o, ol00, .cons s1 (.cons s2 .nil), fun v3 H2 k2 _ => ?_⟩
    refine ⟨v0, rfl, _, rfl, p, C, dx, [], rfl, k2 _ _ (k1 _ _ hp), T.cl, T.no, (by show 0 < 1000; decide), ?_⟩
    refine ⟨v1, rfl, _, rfl, p, C, dx, _, rfl, upd_same, T.cl, T.nt, (by show 1 < 1000; decide), ?_⟩
    exact kq _ _ (fun b o hb e => by rw [upd_ne hb, upd_ne hb]; exact k2 _ _ (k1 _ _ e)) upd_same
theorem ok_rinit {k k1 k2 : Nat} {fa C : Addr} {fd : FuncData} (F : Fun K "__init__" "Reader.__init__" s_rinit fa fd) (T : Rcl K C) (hk1 : k1 ≤ k) (hk2 : k2 ≤ k)
    (cc : Cal P w K mg base k1 "check_format" ["form"] (spF0 K 1 phi_check_format)) (cs : Cal P w K mg base k2 "first_stand" ["form"] (spF0 K 1 phi_first_stand)) : FnOk P w K mg base CX0 (k + 1) fa fd ["self", "form"] (spRI K C) := by
  refine F.ok sc_rinit (fun vs H Q E h => ?_) (fun cdv A outer s H vs Q E hr h => ?_)
  · obtain ⟨p, dx, v0, f, rfl, _⟩ := h; rfl
  · obtain ⟨p, dx, v0, f, rfl, hp, rf, ok, kq⟩ := h
    obtain ⟨f1, fd1, m1, kp1, F1, b1, _⟩ := cc.ex
    obtain ⟨f2, fd2, m2, kp2, F2, b2, _⟩ := cs.ex
    refine ⟨_, pss_cons (ps_expr (pe_call F1 (hr.mono hk1) rfl m1 kp1 b1 .nil pass0 (pa_cons (pv 1) pa_nil))) (pss_cons (ps_fld (pv 0) (pv 1) rfl) (pss_cons (ps_fld (pv 0) (pe_lst pa_nil) rfl)
      (pss_one (ps_fld (pv 0) (pe_lst (pa_cons (pe_call F2 (hr.mono hk2) rfl m2 kp2 b2 .nil pass0 (pa_cons (pv 1) pa_nil)) pa_nil)) rfl)))), ?_⟩
    refine ⟨v0, rfl, rfl, O0, [f.d], .d .non, cform_ok ok, ol0, .cons rf .nil, fun v1 H1 k1 _ => ?_⟩
    have rf1 : Rep K H1 O0 f.d v0 := rf.on k1
    refine ⟨v0, rfl, _, rfl, p, C, dx, [], rfl, k1 _ _ hp, T.cl, T.nf, (by show 0 < 1000; decide), ?_⟩
    refine ⟨Nat.zero_le _, fun l1 hl1 => ?_⟩
    have np1 : p ≠ l1 := fun e => by rw [← e, upd_same] at hl1; cases hl1
    have hl1' : H1 l1 = none := by rw [upd_ne np1.symm] at hl1; exact hl1
    refine ⟨_, rfl, p, C, dx, _, rfl, (by rw [upd_ne np1, upd_same]), T.cl, T.ns, (by show 1 < 1000; decide), ?_⟩
    have e3 : ∀ b o, b ≠ p → H1 b = some o → upd (upd (upd H1 p (.ins C dx (putF "_form" v0 []))) l1 (.lst [])) p (.ins C dx (putF "_signs" (.ref l1) (putF "_form" v0 []))) b = some o := fun b o hb e => by
      rw [upd_ne hb, upd_ne (ne_of_none e hl1'), upd_ne hb]; exact e
    have f3 : upd (upd (upd H1 p (.ins C dx (putF "_form" v0 []))) l1 (.lst [])) p (.ins C dx (putF "_signs" (.ref l1) (putF "_form" v0 []))) p = some (.ins C dx (putF "_signs" (.ref l1) (putF "_form" v0 []))) := upd_same
    have g3 : upd (upd (upd H1 p (.ins C dx (putF "_form" v0 []))) l1 (.lst [])) p (.ins C dx (putF "_signs" (.ref l1) (putF "_form" v0 []))) l1 = some (.lst []) := by rw [upd_ne np1.symm, upd_same]
    have r3 : Rep K (upd (upd (upd H1 p (.ins C dx (putF "_form" v0 []))) l1 (.lst [])) p (.ins C dx (putF "_signs" (.ref l1) (putF "_form" v0 [])))) O0 f.d v0 :=
      ((rf1.inS (k1 _ _ hp)).on (updK hl1)).inS (by rw [upd_ne np1, upd_same])
    generalize upd (upd (upd H1 p (.ins C dx (putF "_form" v0 []))) l1 (.lst [])) p (.ins C dx (putF "_signs" (.ref l1) (putF "_form" v0 []))) = H3 at *
    refine ⟨v0, rfl, rfl, O0, [f.d], .d (behM f 0).d, first_ok, ol0, .cons r3 .nil, fun v2 H4 k4 rr => ?_⟩
    have r4 : Rep K H4 O0 (behM f 0).d v2 := rr
    refine ⟨by show 1 ≤ 16777216; decide, fun l2 hl2 => ?_⟩
    have np2 : p ≠ l2 := ne_of_none (k4 _ _ f3) hl2
    have n12 : l1 ≠ l2 := ne_of_none (k4 _ _ g3) hl2
    have hl2H : H l2 = none := by
      cases e : H l2 with
      | none => rfl
      | some o =>
        have := k4 _ _ (e3 _ _ np2.symm (k1 _ _ e))
        rw [hl2] at this; cases this
    have hl1H : H l1 = none := by
      cases e : H l1 with
      | none => rfl
      | some o =>
        have := k1 _ _ e
        rw [hl1'] at this; cases this
    have hp4 : upd H4 l2 (.lst [v2]) p = some (.ins C dx (putF "_signs" (.ref l1) (putF "_form" v0 []))) := by rw [upd_ne np2]; exact k4 _ _ f3
    refine ⟨_, rfl, p, C, dx, _, rfl, hp4, T.cl, T.na, (by show 2 < 1000; decide), ?_⟩
    have more : ∀ {d v}, Rep K H4 O0 d v → Rep K (upd (upd H4 l2 (.lst [v2])) p (.ins C dx (putF "_along" (.ref l2) (putF "_signs" (.ref l1) (putF "_form" v0 []))))) O0 d v := fun {d v} r => (r.on (updK hl2)).inS hp4
    refine kq _ l1 l2 [v2] (fun b o hb e => ?_) hl1H hl2H ⟨by rw [upd_same]; rfl, by rw [upd_ne np1.symm, upd_ne n12]; exact k4 _ _ g3, by rw [upd_ne np2.symm, upd_same], n12, more (r3.on k4), .cons (more r4) .nil⟩
    rw [upd_ne hb, upd_ne (ne_of_none (k4 _ _ (e3 _ _ hb (k1 _ _ e))) hl2)]
    exact k4 _ _ (e3 _ _ hb (k1 _ _ e))
theorem rinit_new {k : Nat} {fa C : Addr} {fd : FuncData} (G : FnOk P w K mg base CX0 k fa fd ["self", "form"] (spRI K C)) : FnOk P w K mg base CX0 k fa fd ["self", "form"] (spNew K C argR) := G.imp fun vs H Q E h => by
  obtain ⟨p, dx, rest, ds, rfl, hp, ⟨f, rfl, o⟩, r, q⟩ := h
  rw [Reps] at r
  obtain ⟨v, r', rfl, r1, r⟩ := r
  rw [Reps] at r
  subst r
  exact ⟨p, dx, v, f, rfl, hp, r1, o, fun H' l1 l2 ws k _ _ rd => q H' _ k rd.hp⟩
end
structure NwR (P : Program) (w : World) (K : PySem.W.Frag) (mg : Str → Option Value) (base : Heap) (C1 C2 f1 f2 : Addr) (d1 d2 : FuncData) : Prop where
  mR : Mk K C1 f1
  iR : InsF K C1
  gR : FnOk P w K mg base CX0 9 f1 d1 ["self", "form"] (spNew K C1 argR)
  nR : mg "Reader" = some (.ref C1)
  bR : Binds K d1 ["self", "form"] []
  mP : Mk K C2 f2
  iP : InsF K C2
  gP : FnOk P w K mg base CX0 9 f2 d2 ["self", "one", "other"] (spNew K C2 argP)
  nP : mg "Pair" = some (.ref C2)
  bP : Binds K d2 ["self", "one", "other"] []
/-- the classes as the top leaves them, whatever the base -/
structure RkF (K : PySem.W.Frag) (mg : Str → Option Value) (C1 C2 f1 f2 : Addr) (d1 d2 : FuncData) : Prop where
  mR : Mk K C1 f1
  iR : InsF K C1
  tR : Rcl K C1
  fR : Fun K "__init__" "Reader.__init__" s_rinit f1 d1
  nR : mg "Reader" = some (.ref C1)
  bR : Binds K d1 ["self", "form"] []
  mP : Mk K C2 f2
  iP : InsF K C2
  tP : Pcl K C2
  fP : Fun K "__init__" "Pair.__init__" s_pinit f2 d2
  nP : mg "Pair" = some (.ref C2)
  bP : Binds K d2 ["self", "one", "other"] []
def spL01 (K : PySem.W.Frag) : Sp := fun vs H Q E => ∀ C1 C2, spF0 K 1 (phi_law_01 C1 C2) vs H Q E
structure Tx (K : PySem.W.Frag) (w : World) (mg : Str → Option Value) : Prop where
  n_abs : mg "abs" = none
  n_all : mg "all" = none
  n_bool : mg "bool" = none
  n_int : mg "int" = none
  n_isinstance : mg "isinstance" = none
  n_len : mg "len" = none
  n_list : mg "list" = none
  n_max : mg "max" = none
  n_min : mg "min" = none
  n_range : mg "range" = none
  n_str : mg "str" = none
  n_tuple : mg "tuple" = none
  c_BASE : Glo K mg "BASE" dc_BASE
  c_HEAD : Glo K mg "HEAD" dc_HEAD
  c_TAG : Glo K mg "TAG" dc_TAG
  c_USES : Glo K mg "USES" dc_USES
  c_WIDTHS : Glo K mg "WIDTHS" dc_WIDTHS
abbrev s__law_grab : Stmt := topS 109
theorem sc__law_grab : FnScope ["bag", "below", "digit", "mix"] ["bag", "below"] (defScope s__law_grab) := ⟨rfl, rfl, rfl, by decide +kernel, rfl, by decide +kernel, by decide +kernel⟩
abbrev s__law_drawn_tags : Stmt := topS 114
theorem sc__law_drawn_tags : FnScope ["bag", "base", "many_here", "kinds_here", "found", "sign"] ["bag", "base", "many_here"] (defScope s__law_drawn_tags) := ⟨rfl, rfl, rfl, by decide +kernel, rfl, by decide +kernel, by decide +kernel⟩
abbrev s__law_drawn_form : Stmt := topS 115
theorem sc__law_drawn_form : FnScope ["bag", "base", "marks_here", "most_here", "many_here", "many_marks", "head_here", "wide", "top", "rows", "k"] ["bag", "base", "marks_here", "most_here", "many_here"] (defScope s__law_drawn_form) := ⟨rfl, rfl, rfl, by decide +kernel, rfl, by decide +kernel, by decide +kernel⟩
abbrev s__law_any_form : Stmt := topS 118
theorem sc__law_any_form : FnScope ["bag", "base", "great", "marks_here", "many", "top"] ["bag", "base", "great"] (defScope s__law_any_form) := ⟨rfl, rfl, rfl, by decide +kernel, rfl, by decide +kernel, by decide +kernel⟩
abbrev s__law_bag : Stmt := topS 108
theorem sc__law_bag : FnScope ["script", "at", "cell"] ["script", "at"] (defScope s__law_bag) := ⟨rfl, rfl, rfl, by decide +kernel, rfl, by decide +kernel, by decide +kernel⟩
abbrev s__law_bent_file : Stmt := topS 117
theorem sc__law_bent_file : FnScope ["bag", "base", "signs_here", "odd", "spot", "some"] ["bag", "base", "signs_here"] (defScope s__law_bent_file) := ⟨rfl, rfl, rfl, by decide +kernel, rfl, by decide +kernel, by decide +kernel⟩
abbrev s__law_bent_form : Stmt := topS 116
theorem sc__law_bent_form : FnScope ["bag", "form_here", "base", "head_here", "wide", "top", "rows", "rest", "odd", "spot", "at", "word", "uses_here", "use_here", "last", "bads", "tags_here", "rests", "other_rest", "some", "near"] ["bag", "form_here"] (defScope s__law_bent_form) := ⟨rfl, rfl, rfl, by decide +kernel, rfl, by decide +kernel, by decide +kernel⟩
abbrev s__law_equal : Stmt := topS 110
theorem sc__law_equal : FnScope ["found", "due", "k"] ["found", "due"] (defScope s__law_equal) := ⟨rfl, rfl, rfl, by decide +kernel, rfl, by decide +kernel, by decide +kernel⟩
abbrev s__law_is_sign : Stmt := topS 111
theorem sc__law_is_sign : FnScope ["base", "thing"] ["base", "thing"] (defScope s__law_is_sign) := ⟨rfl, rfl, rfl, by decide +kernel, rfl, by decide +kernel, by decide +kernel⟩
abbrev s__law_is_form : Stmt := topS 112
theorem sc__law_is_form : FnScope ["thing", "base", "head_here", "wide", "top", "rows", "rest", "before", "row", "mark"] ["thing"] (defScope s__law_is_form) := ⟨rfl, rfl, rfl, by decide +kernel, rfl, by decide +kernel, by decide +kernel⟩
abbrev s__law_is_signs : Stmt := topS 113
theorem sc__law_is_signs : FnScope ["base", "thing", "sign"] ["base", "thing"] (defScope s__law_is_signs) := ⟨rfl, rfl, rfl, by decide +kernel, rfl, by decide +kernel, by decide +kernel⟩
abbrev s__is_word : Stmt := topS 54
theorem sc__is_word : FnScope ["value", "words"] ["value", "words"] (defScope s__is_word) := ⟨rfl, rfl, rfl, by decide +kernel, rfl, by decide +kernel, by decide +kernel⟩
abbrev s_is_integer : Stmt := topS 51
theorem sc_is_integer : FnScope ["value"] ["value"] (defScope s_is_integer) := ⟨rfl, rfl, rfl, by decide +kernel, rfl, by decide +kernel, by decide +kernel⟩
abbrev s_is_sign : Stmt := topS 52
theorem sc_is_sign : FnScope ["value", "base"] ["value", "base"] (defScope s_is_sign) := ⟨rfl, rfl, rfl, by decide +kernel, rfl, by decide +kernel, by decide +kernel⟩
abbrev s__is_tag : Stmt := topS 56
theorem sc__is_tag : FnScope ["value", "base"] ["value", "base"] (defScope s__is_tag) := ⟨rfl, rfl, rfl, by decide +kernel, rfl, by decide +kernel, by decide +kernel⟩
abbrev s__are_tags : Stmt := topS 57
theorem sc__are_tags : FnScope ["value", "base", "tag", "k"] ["value", "base"] (defScope s__are_tags) := ⟨rfl, rfl, rfl, by decide +kernel, rfl, by decide +kernel, by decide +kernel⟩
abbrev s__is_head : Stmt := topS 55
theorem sc__is_head : FnScope ["value", "base", "mark"] ["value", "base"] (defScope s__is_head) := ⟨rfl, rfl, rfl, by decide +kernel, rfl, by decide +kernel, by decide +kernel⟩
abbrev s_is_format : Stmt := topS 43
theorem sc_is_format : FnScope ["value", "base", "head", "width", "most", "tags", "others"] ["value"] (defScope s_is_format) := ⟨rfl, rfl, rfl, by decide +kernel, rfl, by decide +kernel, by decide +kernel⟩
abbrev s_check_format : Stmt := topS 45
theorem sc_check_format : FnScope ["form"] ["form"] (defScope s_check_format) := ⟨rfl, rfl, rfl, by decide +kernel, rfl, by decide +kernel, by decide +kernel⟩
abbrev s_check_same_base : Stmt := topS 49
theorem sc_check_same_base : FnScope ["one", "other"] ["one", "other"] (defScope s_check_same_base) := ⟨rfl, rfl, rfl, by decide +kernel, rfl, by decide +kernel, by decide +kernel⟩
abbrev s_check_two_formats : Stmt := topS 48
theorem sc_check_two_formats : FnScope ["one", "other"] ["one", "other"] (defScope s_check_two_formats) := ⟨rfl, rfl, rfl, by decide +kernel, rfl, by decide +kernel, by decide +kernel⟩
abbrev s_behind_marks : Stmt := topS 24
theorem sc_behind_marks : FnScope ["form", "count"] ["form", "count"] (defScope s_behind_marks) := ⟨rfl, rfl, rfl, by decide +kernel, rfl, by decide +kernel, by decide +kernel⟩
abbrev s_first_stand : Stmt := topS 23
theorem sc_first_stand : FnScope ["form"] ["form"] (defScope s_first_stand) := ⟨rfl, rfl, rfl, by decide +kernel, rfl, by decide +kernel, by decide +kernel⟩
abbrev s_are_signs : Stmt := topS 53
theorem sc_are_signs : FnScope ["value", "base", "sign"] ["value", "base"] (defScope s_are_signs) := ⟨rfl, rfl, rfl, by decide +kernel, rfl, by decide +kernel, by decide +kernel⟩
abbrev s_is_file : Stmt := topS 44
theorem sc_is_file : FnScope ["form", "value"] ["form", "value"] (defScope s_is_file) := ⟨rfl, rfl, rfl, by decide +kernel, rfl, by decide +kernel, by decide +kernel⟩
abbrev s_law : Stmt := topS 119
theorem sc_law : FnScope ["script", "at", "bag", "turn", "base", "form_here", "trial", "thing", "signs_here", "heard", "near", "k"] ["script"] (defScope s_law) := ⟨rfl, rfl, rfl, by decide +kernel, rfl, by decide +kernel, by decide +kernel⟩
section
variable {P : Program} {w : World} {K : PySem.W.Frag} {mg : Str → Option Value} {base : Heap}
theorem ok__law_grab (T : Tx K w mg)  (d : DefF K mg "_law_grab" s__law_grab ["bag", "below"]) : Cal P w K mg base 1 "_law_grab" ["bag", "below"] (spF1 K 2 phi__law_grab) :=
  d.cal fun f fd F => fn_ok1 (g := g__law_grab) F sc__law_grab e__law_grab fun cdv A outer s H E hr =>
    (s_cons (s_if (t_cmp opGt (d_ix ixD (dv 0) d_int) d_int) (s_cons (s_set sc__law_grab.nd (d_op opMod (d_t1 c_int T.n_int (by decide +kernel) (d_ix ixD (dv 0) d_int)) (dv 1)))
    (s_cons (s_sti (d_op opDiv (d_ix ixD (dv 0) d_int) (dv 1)) d_int)
    (s_one (s_ret (dv 2))))) s_nil)
    (s_cons (s_sti (d_op opAdd (d_ix ixD (dv 0) d_int) d_int) d_int)
    (s_cons (s_set sc__law_grab.nd (d_op opMod (d_op opPow (d_t1 c_int T.n_int (by decide +kernel) (d_op opAdd (d_ix ixD (dv 0) d_int) (d_op opMul d_int (d_ix ixD (dv 0) d_int)))) d_int) (d_op opAdd (d_op opPow d_int d_int) d_int)))
    (s_cons (s_set sc__law_grab.nd (d_op opMod (d_op opPow (d_t1 c_int T.n_int (by decide +kernel) (d_op opAdd (dv 3) (d_op opMul d_int (d_ix ixD (dv 0) d_int)))) d_int) (d_op opAdd (d_op opPow d_int d_int) d_int)))
    (s_one (s_ret (d_op opMod (d_op opDiv (dv 3) d_int) (dv 1))))))))
theorem ok__law_drawn_tags (T : Tx K w mg) (C__law_grab : Cal P w K mg base 1 "_law_grab" ["bag", "below"] (spF1 K 2 phi__law_grab)) (d : DefF K mg "_law_drawn_tags" s__law_drawn_tags ["bag", "base", "many_here"]) : Cal P w K mg base 2 "_law_drawn_tags" ["bag", "base", "many_here"] (spF1 K 3 phi__law_drawn_tags) :=
  d.cal fun f fd F => fn_ok1 (g := g__law_drawn_tags) F sc__law_drawn_tags e__law_drawn_tags fun cdv A outer s H E hr =>
    (s_cons (s_par rfl sc__law_drawn_tags.nd (ap_cons (d_lst (a_cons d_str (a_cons d_str (a_cons d_str (a_cons d_str (a_cons d_str (a_cons d_str (a_cons d_str a_nil)))))))) (ap_cons (d_lst a_nil) ap_nil)))
    (s_cons (s_for rfl (i_rg1 T.n_range (dv 1)) (g_name sc__law_drawn_tags.nd) (s_one (s_if (t_and (t_cmp opLt (d_b1 c_len T.n_len (by decide +kernel) (dv 4)) (dv 2)) (pw_and1 (t_cmp opLt (d_call1 C__law_grab n__law_grab hr (by decide) (a_cons (dv 0) (a_cons (dv 1) a_nil))) (dv 2)))).pt (s_one (s_app (d_tup (a_cons (dv 5) (a_cons (d_ix ixD (dv 3) (d_call1 C__law_grab n__law_grab hr (by decide) (a_cons (dv 0) (a_cons d_int a_nil)))) a_nil))))) s_nil)))
    (s_one (s_ret (d_t1 c_tuple T.n_tuple (by decide +kernel) (dv 4))))))
theorem ok__law_drawn_form (T : Tx K w mg) (C__law_drawn_tags : Cal P w K mg base 2 "_law_drawn_tags" ["bag", "base", "many_here"] (spF1 K 3 phi__law_drawn_tags)) (C__law_grab : Cal P w K mg base 1 "_law_grab" ["bag", "below"] (spF1 K 2 phi__law_grab)) (d : DefF K mg "_law_drawn_form" s__law_drawn_form ["bag", "base", "marks_here", "most_here", "many_here"]) : Cal P w K mg base 3 "_law_drawn_form" ["bag", "base", "marks_here", "most_here", "many_here"] (spF1 K 5 phi__law_drawn_form) :=
  d.cal fun f fd F => fn_ok1 (g := g__law_drawn_form) F sc__law_drawn_form e__law_drawn_form fun cdv A outer s H E hr =>
    (s_cons (s_set sc__law_drawn_form.nd (d_call1 C__law_grab n__law_grab hr (by decide) (a_cons (dv 0) (a_cons (d_op opAdd (dv 2) d_int) a_nil))))
    (s_cons (s_setLc (own := [("k", 10)]) rfl sc__law_drawn_form.nd (blkOk_by (N := ["bag", "base", "marks_here", "most_here", "many_here", "many_marks", "head_here", "wide", "top", "rows", "k"]) (sc := defScope s__law_drawn_form) (by decide +kernel)) (i_rg1 T.n_range (dv 5)) (fun _ _ _ _ _ => (g_name sc__law_drawn_form.nd)) (fun _ _ _ _ _ => ts_nil) (fun _ _ _ _ _ => (d_if (t_cmp (opEq hr.units) (d_call1 C__law_grab n__law_grab hr (by decide) (a_cons (dv 0) (a_cons d_int a_nil))) d_int) d_non (d_call1 C__law_grab n__law_grab hr (by decide) (a_cons (dv 0) (a_cons (dv 1) a_nil))))))
    (s_cons (s_set sc__law_drawn_form.nd (d_ix ixD (d_lst (a_cons d_str (a_cons d_str (a_cons d_str (a_cons d_str a_nil))))) (d_call1 C__law_grab n__law_grab hr (by decide) (a_cons (dv 0) (a_cons d_int a_nil)))))
    (s_cons (s_set sc__law_drawn_form.nd (d_call1 C__law_grab n__law_grab hr (by decide) (a_cons (dv 0) (a_cons (d_op opAdd (dv 3) d_int) a_nil))))
    (s_cons (s_set sc__law_drawn_form.nd (d_call1 C__law_drawn_tags n__law_drawn_tags hr (by decide) (a_cons (dv 0) (a_cons (dv 1) (a_cons (d_call1 C__law_grab n__law_grab hr (by decide) (a_cons (dv 0) (a_cons (d_op opAdd (dv 4) d_int) a_nil))) a_nil)))))
    (s_one (s_ret (d_tup (a_cons (dv 1) (a_cons (d_t1 c_tuple T.n_tuple (by decide +kernel) (dv 6)) (a_cons (dv 7) (a_cons (dv 8) (a_cons (dv 9) (a_cons (d_ix ixD (d_lst (a_cons d_str (a_cons d_str a_nil))) (d_call1 C__law_grab n__law_grab hr (by decide) (a_cons (dv 0) (a_cons d_int a_nil)))) a_nil))))))))))))))
theorem ok__law_any_form (T : Tx K w mg) (C__law_drawn_form : Cal P w K mg base 3 "_law_drawn_form" ["bag", "base", "marks_here", "most_here", "many_here"] (spF1 K 5 phi__law_drawn_form)) (C__law_grab : Cal P w K mg base 1 "_law_grab" ["bag", "below"] (spF1 K 2 phi__law_grab)) (d : DefF K mg "_law_any_form" s__law_any_form ["bag", "base", "great"]) : Cal P w K mg base 4 "_law_any_form" ["bag", "base", "great"] (spF1 K 3 phi__law_any_form) :=
  d.cal fun f fd F => fn_ok1 (g := g__law_any_form) F sc__law_any_form e__law_any_form fun cdv A outer s H E hr =>
    (s_cons (s_par rfl sc__law_any_form.nd (ap_cons (d_ix ixD (d_lst (a_cons d_int (a_cons (dv 2) a_nil))) (d_call1 C__law_grab n__law_grab hr (by decide) (a_cons (dv 0) (a_cons d_int a_nil)))) (ap_cons (d_ix ixD (d_lst (a_cons d_int (a_cons (dv 2) a_nil))) (d_call1 C__law_grab n__law_grab hr (by decide) (a_cons (dv 0) (a_cons d_int a_nil)))) ap_nil)))
    (s_cons (s_set sc__law_any_form.nd (d_ix ixD (d_lst (a_cons d_int (a_cons d_int (a_cons d_int a_nil)))) (d_call1 C__law_grab n__law_grab hr (by decide) (a_cons (dv 0) (a_cons d_int a_nil)))))
    (s_one (s_ret (d_call1 C__law_drawn_form n__law_drawn_form hr (by decide) (a_cons (dv 0) (a_cons (dv 1) (a_cons (dv 3) (a_cons (dv 5) (a_cons (dv 4) a_nil))))))))))
theorem ok__law_bag (T : Tx K w mg)  (d : DefF K mg "_law_bag" s__law_bag ["script", "at"]) : Cal P w K mg base 1 "_law_bag" ["script", "at"] (spF0 K 2 phi__law_bag) :=
  d.cal fun f fd F => fn_ok0 (g := g__law_bag) F sc__law_bag e__law_bag fun cdv A outer s H E hr =>
    (s_cons (s_set sc__law_bag.nd (d_if (t_cmp opLt (dv 1) (d_b1 c_len T.n_len (by decide +kernel) (dv 0))) (d_ix ixD (dv 0) (dv 1)) d_int))
    (s_one (s_ret (d_lst (a_cons (d_b2 (c_max rfl) T.n_max (by decide +kernel) d_int (d_op opSub (d_b1 c_abs T.n_abs (by decide +kernel) (dv 2)) (d_op opPow d_int d_int))) (a_cons (d_op opAdd (d_op opAdd (d_op opMul (d_op opMod (d_t1 c_int T.n_int (by decide +kernel) (dv 2)) (d_op opAdd (d_op opPow d_int d_int) d_int)) d_int) (d_op opMul d_int (dv 1))) d_int) (a_cons d_int a_nil)))))))
theorem ok__law_bent_file (T : Tx K w mg) (C__law_grab : Cal P w K mg base 1 "_law_grab" ["bag", "below"] (spF1 K 2 phi__law_grab)) (d : DefF K mg "_law_bent_file" s__law_bent_file ["bag", "base", "signs_here"]) : Cal P w K mg base 2 "_law_bent_file" ["bag", "base", "signs_here"] (spF1 K 3 phi__law_bent_file) :=
  d.cal fun f fd F => fn_ok1 (g := g__law_bent_file) F sc__law_bent_file e__law_bent_file fun cdv A outer s H E hr =>
    (s_cons (s_set sc__law_bent_file.nd (d_ix ixD (d_lst (a_cons d_non (a_cons d_bl (a_cons d_bl (a_cons d_str (a_cons (d_tup (a_cons d_int a_nil)) (a_cons (d_lst (a_cons d_int a_nil)) (a_cons d_emp (a_cons (d_neg d_int) (a_cons (dv 1) (a_cons (d_op opAdd (dv 1) d_int) (a_cons d_int (a_cons (d_op opSub (dv 1) d_int) a_nil))))))))))))) (d_call1 C__law_grab n__law_grab hr (by decide) (a_cons (dv 0) (a_cons d_int a_nil)))))
    (s_cons (s_set sc__law_bent_file.nd (d_call1 C__law_grab n__law_grab hr (by decide) (a_cons (dv 0) (a_cons (d_op opAdd (d_b1 c_len T.n_len (by decide +kernel) (dv 2)) d_int) a_nil))))
    (s_cons (s_set sc__law_bent_file.nd (d_lst (a_cons (d_op opAdd (d_op opAdd (d_sl (dv 2) p_no (p_int (dv 4))) (d_tup (a_cons (dv 3) a_nil))) (d_sl (dv 2) (p_int (dv 4)) p_no)) (a_cons (d_op opAdd (d_op opAdd (d_sl (dv 2) p_no (p_int (dv 4))) (d_tup (a_cons (dv 3) a_nil))) (d_sl (dv 2) (p_int (d_op opAdd (dv 4) d_int)) p_no)) a_nil))))
    (s_cons (s_set sc__law_bent_file.nd (d_op opAdd (dv 5) (d_lst (a_cons (d_t1 c_list T.n_list (by decide +kernel) (dv 2)) (a_cons d_non (a_cons d_int (a_cons d_str (a_cons d_str (a_cons d_emp (a_cons d_bl (a_cons (d_tup (a_cons (dv 2) a_nil)) (a_cons (d_lst (a_cons (dv 2) a_nil)) (a_cons (dv 2) a_nil)))))))))))))
    (s_one (s_ret (d_ix ixD (dv 5) (d_call1 C__law_grab n__law_grab hr (by decide) (a_cons (dv 0) (a_cons (d_b1 c_len T.n_len (by decide +kernel) (dv 5)) a_nil))))))))))
theorem ok__law_bent_form (T : Tx K w mg) (C__law_grab : Cal P w K mg base 1 "_law_grab" ["bag", "below"] (spF1 K 2 phi__law_grab)) (d : DefF K mg "_law_bent_form" s__law_bent_form ["bag", "form_here"]) : Cal P w K mg base 2 "_law_bent_form" ["bag", "form_here"] (spF1 K 2 phi__law_bent_form) :=
  d.cal fun f fd F => fn_ok1 (g := g__law_bent_form) F sc__law_bent_form e__law_bent_form fun cdv A outer s H E hr =>
    (s_cons (s_unp (dv 1) (g_tup rfl (gs_cons sc__law_bent_form.nd (gs_cons sc__law_bent_form.nd (gs_cons sc__law_bent_form.nd (gs_cons sc__law_bent_form.nd (gs_cons sc__law_bent_form.nd (gs_cons sc__law_bent_form.nd gs_nil))))))))
    (s_cons (s_set sc__law_bent_form.nd (d_ix ixD (d_lst (a_cons d_non (a_cons d_bl (a_cons d_bl (a_cons d_str (a_cons (d_tup (a_cons d_int a_nil)) (a_cons (d_lst (a_cons d_int a_nil)) (a_cons d_emp (a_cons (d_neg d_int) (a_cons (dv 2) (a_cons (d_op opAdd (dv 2) d_int) a_nil))))))))))) (d_call1 C__law_grab n__law_grab hr (by decide) (a_cons (dv 0) (a_cons d_int a_nil)))))
    (s_cons (s_par rfl sc__law_bent_form.nd (ap_cons (d_call1 C__law_grab n__law_grab hr (by decide) (a_cons (dv 0) (a_cons (d_op opAdd (d_b1 c_len T.n_len (by decide +kernel) (dv 3)) d_int) a_nil))) (ap_cons (d_call1 C__law_grab n__law_grab hr (by decide) (a_cons (dv 0) (a_cons (d_op opAdd (d_b1 c_len T.n_len (by decide +kernel) (dv 6)) d_int) a_nil))) ap_nil)))
    (s_cons (s_set sc__law_bent_form.nd (d_ix ixD (d_lst (a_cons d_str (a_cons d_str (a_cons d_str (a_cons d_str (a_cons d_str (a_cons d_str (a_cons d_str (a_cons d_non (a_cons d_int (a_cons (d_lst (a_cons d_str a_nil)) (a_cons d_str a_nil)))))))))))) (d_call1 C__law_grab n__law_grab hr (by decide) (a_cons (dv 0) (a_cons d_int a_nil)))))
    (s_cons (s_set sc__law_bent_form.nd (d_lst (a_cons d_str (a_cons d_str (a_cons d_str (a_cons d_str (a_cons d_str (a_cons d_str (a_cons d_str (a_cons d_str (a_cons d_non (a_cons d_int (a_cons (d_lst (a_cons d_str a_nil)) a_nil)))))))))))))
    (s_cons (s_set sc__law_bent_form.nd (d_op opAdd (dv 12) (d_lst (a_cons d_str (a_cons d_str (a_cons d_str a_nil))))))
    (s_cons (s_set sc__law_bent_form.nd (d_ix ixD (dv 12) (d_call1 C__law_grab n__law_grab hr (by decide) (a_cons (dv 0) (a_cons d_int a_nil)))))
    (s_cons (s_set sc__law_bent_form.nd (d_if (t_cmp opGt (dv 10) d_int) (d_ix ixD (d_ix ixD (dv 6) (d_op opSub (dv 10) d_int)) d_int) (d_neg d_int)))
    (s_cons (s_set sc__law_bent_form.nd (d_lst (a_cons (d_tup (a_cons (d_op opAdd (dv 14) d_int) (a_cons (dv 13) a_nil))) (a_cons (d_tup (a_cons (dv 14) (a_cons d_str a_nil))) (a_cons (d_tup (a_cons (dv 8) (a_cons d_str a_nil))) (a_cons (d_lst (a_cons (d_op opAdd (dv 14) d_int) (a_cons d_str a_nil))) a_nil))))))
    (s_cons (s_set sc__law_bent_form.nd (d_op opAdd (dv 15) (d_lst (a_cons (d_tup (a_cons (d_op opAdd (dv 14) d_int) a_nil)) (a_cons (dv 8) (a_cons (d_tup (a_cons (d_op opAdd (dv 14) d_int) (a_cons d_str (a_cons d_int a_nil)))) a_nil))))))
    (s_cons (s_set sc__law_bent_form.nd (d_op opAdd (d_op opAdd (d_sl (dv 6) p_no (p_int (dv 10))) (d_tup (a_cons (d_ix ixD (dv 15) (d_call1 C__law_grab n__law_grab hr (by decide) (a_cons (dv 0) (a_cons d_int a_nil)))) a_nil))) (d_sl (dv 6) (p_int (dv 10)) p_no)))
    (s_cons (s_set sc__law_bent_form.nd (d_lst (a_cons d_str (a_cons d_str (a_cons d_str (a_cons d_str (a_cons d_str (a_cons d_str (a_cons d_non (a_cons d_int (a_cons d_str (a_cons (d_lst (a_cons d_str a_nil)) (a_cons d_emp a_nil)))))))))))))
    (s_cons (s_set sc__law_bent_form.nd (d_op opAdd (dv 17) (d_lst (a_cons (d_tup (a_cons d_str a_nil)) (a_cons d_str (a_cons d_str (a_cons d_str a_nil)))))))
    (s_cons (s_set sc__law_bent_form.nd (d_ix ixD (dv 17) (d_call1 C__law_grab n__law_grab hr (by decide) (a_cons (dv 0) (a_cons d_int a_nil)))))
    (s_cons (s_own sc__law_bent_form.nd (d_lst (a_cons (d_tup (a_cons (dv 8) (a_cons (dv 3) (a_cons (dv 4) (a_cons (dv 5) (a_cons (dv 6) (a_cons (dv 7) a_nil))))))) (a_cons (d_op opAdd (d_tup (a_cons (d_ix ixD (d_lst (a_cons d_int (a_cons d_int (a_cons d_int (a_cons d_int (a_cons d_int a_nil)))))) (d_call1 C__law_grab n__law_grab hr (by decide) (a_cons (dv 0) (a_cons d_int a_nil)))) a_nil)) (d_sl (dv 1) (p_int d_int) p_no)) a_nil))))
    (s_cons (s_app (d_tup (a_cons (dv 2) (a_cons (d_op opAdd (d_op opAdd (d_sl (dv 3) p_no (p_int (dv 9))) (d_tup (a_cons (dv 8) a_nil))) (d_sl (dv 3) (p_int (dv 9)) p_no)) (a_cons (dv 4) (a_cons (dv 5) (a_cons (dv 6) (a_cons (dv 7) a_nil))))))))
    (s_cons (s_app (d_tup (a_cons (dv 2) (a_cons (d_ix ixD (d_lst (a_cons (d_t1 c_list T.n_list (by decide +kernel) (dv 3)) (a_cons d_non (a_cons d_int (a_cons d_str (a_cons d_emp a_nil)))))) (d_call1 C__law_grab n__law_grab hr (by decide) (a_cons (dv 0) (a_cons d_int a_nil)))) (a_cons (dv 4) (a_cons (dv 5) (a_cons (dv 6) (a_cons (dv 7) a_nil))))))))
    (s_cons (s_own sc__law_bent_form.nd (d_op opAdd (dv 19) (d_lst (a_cons (d_tup (a_cons (dv 2) (a_cons (dv 3) (a_cons (dv 11) (a_cons (dv 5) (a_cons (dv 6) (a_cons (dv 7) a_nil))))))) (a_cons (d_tup (a_cons (dv 2) (a_cons (dv 3) (a_cons (dv 4) (a_cons (dv 8) (a_cons (dv 6) (a_cons (dv 7) a_nil))))))) a_nil)))))
    (s_cons (s_own sc__law_bent_form.nd (d_op opAdd (dv 19) (d_lst (a_cons (d_tup (a_cons (dv 2) (a_cons (dv 3) (a_cons (dv 4) (a_cons (dv 5) (a_cons (dv 16) (a_cons (dv 7) a_nil))))))) (a_cons (d_tup (a_cons (dv 2) (a_cons (dv 3) (a_cons (dv 4) (a_cons (dv 5) (a_cons (dv 16) (a_cons (dv 7) a_nil))))))) a_nil)))))
    (s_cons (s_set sc__law_bent_form.nd (d_op opAdd (d_op opAdd (d_sl (dv 6) p_no (p_int (dv 10))) (d_revT (d_sl (dv 6) (p_int (dv 10)) (p_int (d_op opAdd (dv 10) d_int))))) (d_sl (dv 6) (p_int (d_op opAdd (dv 10) d_int)) p_no)))
    (s_cons (s_own sc__law_bent_form.nd (d_op opAdd (dv 19) (d_lst (a_cons (d_tup (a_cons (dv 2) (a_cons (dv 3) (a_cons (dv 4) (a_cons (dv 5) (a_cons (dv 20) (a_cons (dv 7) a_nil))))))) (a_cons (d_tup (a_cons (dv 2) (a_cons (dv 3) (a_cons (dv 4) (a_cons (dv 5) (a_cons (dv 20) (a_cons (dv 7) a_nil))))))) a_nil)))))
    (s_cons (s_own sc__law_bent_form.nd (d_op opAdd (dv 19) (d_lst (a_cons (d_tup (a_cons (dv 2) (a_cons (dv 3) (a_cons (dv 4) (a_cons (dv 5) (a_cons (d_revT (dv 6)) (a_cons (dv 7) a_nil))))))) (a_cons (d_tup (a_cons (dv 2) (a_cons (dv 3) (a_cons (dv 4) (a_cons (dv 5) (a_cons (d_t1 c_list T.n_list (by decide +kernel) (dv 6)) (a_cons (dv 7) a_nil))))))) a_nil)))))
    (s_cons (s_app (d_tup (a_cons (dv 2) (a_cons (dv 3) (a_cons (dv 4) (a_cons (dv 5) (a_cons (d_ix ixD (d_lst (a_cons d_non (a_cons d_int (a_cons d_emp (a_cons d_str (a_cons (d_tup (a_cons d_str a_nil)) a_nil)))))) (d_call1 C__law_grab n__law_grab hr (by decide) (a_cons (dv 0) (a_cons d_int a_nil)))) (a_cons (dv 7) a_nil))))))))
    (s_cons (s_app (d_tup (a_cons (dv 2) (a_cons (dv 3) (a_cons (dv 4) (a_cons (dv 5) (a_cons (dv 6) (a_cons (dv 18) a_nil))))))))
    (s_cons (s_own sc__law_bent_form.nd (d_op opAdd (dv 19) (d_lst (a_cons (d_sl (dv 1) p_no (p_int d_int)) (a_cons (d_op opAdd (dv 1) (d_tup (a_cons d_int a_nil))) (a_cons (d_t1 c_list T.n_list (by decide +kernel) (dv 1)) (a_cons (d_tup a_nil) (a_cons d_non (a_cons d_int (a_cons d_str (a_cons d_emp (a_cons d_bl a_nil))))))))))))
    (s_cons (s_own sc__law_bent_form.nd (d_op opAdd (dv 19) (d_lst (a_cons (d_tup (a_cons (dv 1) a_nil)) (a_cons (d_sl (dv 1) (p_int d_int) p_no) a_nil)))))
    (s_one (s_ret (d_ix ixD (dv 19) (d_call1 C__law_grab n__law_grab hr (by decide) (a_cons (dv 0) (a_cons (d_b1 c_len T.n_len (by decide +kernel) (dv 19)) a_nil))))))))))))))))))))))))))))))))
theorem ok__law_equal (T : Tx K w mg)  (d : DefF K mg "_law_equal" s__law_equal ["found", "due"]) : ∀ k : Nat, Cal P w K mg base (k + 1) "_law_equal" ["found", "due"] (spF0 K 2 (phiR__law_equal k))
  | 0 => d.cal fun f fd F => ⟨fun vs H Q E h => h.1, fun A outer s H args us vs Q E _ _ _ _ h => by obtain ⟨_, _, _, _, h, _⟩ := h; cases h⟩
  | k + 1 => d.cal fun f fd F => by
    have CR := ok__law_equal T  d k
    have nR : ∀ ds r, phiR__law_equal k ds = some r → ds.length = 2 := nR__law_equal k
    refine fn_ok0 (g := g__law_equal (phiR__law_equal k)) F sc__law_equal (eR__law_equal k) fun cdv A outer s H E hr => ?_
    exact (s_cons (s_if (t_or (t_val (d_b2 c_isi T.n_isinstance (by decide +kernel) (dv 0) (d_ty T.n_bool (by decide +kernel)))) (pw_or1 (t_val (d_b2 c_isi T.n_isinstance (by decide +kernel) (dv 1) (d_ty T.n_bool (by decide +kernel)))))).pt (s_one (s_ret (d_and (d_b2 c_isi T.n_isinstance (by decide +kernel) (dv 0) (d_ty T.n_bool (by decide +kernel))) (d_and (d_b2 c_isi T.n_isinstance (by decide +kernel) (dv 1) (d_ty T.n_bool (by decide +kernel))) (pe_one (d_cmp (opEq hr.units) (dv 0) (dv 1))))))) s_nil)
    (s_cons (s_if (t_or (t_cmp (opNe hr.units) (d_b2 c_isi T.n_isinstance (by decide +kernel) (dv 0) (d_ty T.n_list (by decide +kernel))) (d_b2 c_isi T.n_isinstance (by decide +kernel) (dv 1) (d_ty T.n_list (by decide +kernel)))) (pw_or1 (t_cmp (opNe hr.units) (d_b2 c_isi T.n_isinstance (by decide +kernel) (dv 0) (d_ty T.n_tuple (by decide +kernel))) (d_b2 c_isi T.n_isinstance (by decide +kernel) (dv 1) (d_ty T.n_tuple (by decide +kernel)))))).pt (s_one (s_ret d_bl)) s_nil)
    (s_cons (s_if (t_or (t_cmp (opNe hr.units) (d_b2 c_isi T.n_isinstance (by decide +kernel) (dv 0) (d_ty T.n_str (by decide +kernel))) (d_b2 c_isi T.n_isinstance (by decide +kernel) (dv 1) (d_ty T.n_str (by decide +kernel)))) (pw_or1 (t_cmp (opNe hr.units) (d_b2 c_isi T.n_isinstance (by decide +kernel) (dv 0) (d_ty T.n_int (by decide +kernel))) (d_b2 c_isi T.n_isinstance (by decide +kernel) (dv 1) (d_ty T.n_int (by decide +kernel)))))).pt (s_one (s_ret d_bl)) s_nil)
    (s_cons (s_if (t_val (d_isi2 T.n_isinstance (dv 1) (pe_bltn (v := .ty "list") (by rfl) T.n_list (by decide +kernel) rfl) (pe_bltn (v := .ty "tuple") (by rfl) T.n_tuple (by decide +kernel) rfl))) (s_cons (s_if (t_cmp (opNe hr.units) (d_b1 c_len T.n_len (by decide +kernel) (dv 0)) (d_b1 c_len T.n_len (by decide +kernel) (dv 1))) (s_one (s_ret d_bl)) s_nil)
    (s_one (s_ret (d_cmp (opEq hr.units) (d_lc (own := [("k", 2)]) rfl sc__law_equal.nd (blkOk_by (N := ["found", "due", "k"]) (sc := defScope s__law_equal) (by decide +kernel)) (i_rg1 T.n_range (d_b1 c_len T.n_len (by decide +kernel) (dv 1))) (fun _ _ _ _ _ => (g_name sc__law_equal.nd)) (fun _ _ _ _ _ => (ts_one (t_not (t_val (d_call CR nR hr (Nat.le_refl _) (a_cons (d_ix ixD (dv 0) (dv 2)) (a_cons (d_ix ixD (dv 1) (dv 2)) a_nil))))))) (fun _ _ _ _ _ => (dv 2))) (d_lst a_nil))))) s_nil)
    (s_one (s_ret (d_and (d_cmp (opEq hr.units) (d_cmp opIs (dv 0) d_non) (d_cmp opIs (dv 1) d_non)) (pe_one (d_cmp (opEq hr.units) (dv 0) (dv 1))))))))))
theorem ok__law_is_sign (T : Tx K w mg)  (d : DefF K mg "_law_is_sign" s__law_is_sign ["base", "thing"]) : Cal P w K mg base 1 "_law_is_sign" ["base", "thing"] (spF0 K 2 phi__law_is_sign) :=
  d.cal fun f fd F => fn_ok0 (g := g__law_is_sign) F sc__law_is_sign e__law_is_sign fun cdv A outer s H E hr =>
    (s_one (s_ret (d_and (d_b2 c_isi T.n_isinstance (by decide +kernel) (dv 1) (d_ty T.n_int (by decide +kernel))) (d_and (d_not (d_b2 c_isi T.n_isinstance (by decide +kernel) (dv 1) (d_ty T.n_bool (by decide +kernel)))) (d_and (d_cmp opGe (dv 1) d_int) (pe_one (d_cmp opLt (dv 1) (dv 0))))))))
theorem ok__law_is_form (T : Tx K w mg) (C__law_is_sign : Cal P w K mg base 1 "_law_is_sign" ["base", "thing"] (spF0 K 2 phi__law_is_sign)) (d : DefF K mg "_law_is_form" s__law_is_form ["thing"]) : Cal P w K mg base 2 "_law_is_form" ["thing"] (spF0 K 1 phi__law_is_form) :=
  d.cal fun f fd F => fn_ok0 (g := g__law_is_form) F sc__law_is_form e__law_is_form fun cdv A outer s H E hr =>
    (s_cons (s_if (t_or (t_not (t_val (d_b2 c_isi T.n_isinstance (by decide +kernel) (dv 0) (d_ty T.n_tuple (by decide +kernel))))) (pw_or1 (t_cmp (opNe hr.units) (d_b1 c_len T.n_len (by decide +kernel) (dv 0)) d_int))).pt (s_one (s_ret d_bl)) s_nil)
    (s_cons (s_unp (dv 0) (g_tup rfl (gs_cons sc__law_is_form.nd (gs_cons sc__law_is_form.nd (gs_cons sc__law_is_form.nd (gs_cons sc__law_is_form.nd (gs_cons sc__law_is_form.nd (gs_cons sc__law_is_form.nd gs_nil))))))))
    (s_cons (s_if (t_or (t_not (t_val (d_call C__law_is_sign n__law_is_sign hr (by decide) (a_cons d_int (a_cons (dv 1) a_nil))))) (t_or (t_cmp opLt (dv 1) d_int) (t_or (t_not (t_val (d_b2 c_isi T.n_isinstance (by decide +kernel) (dv 2) (d_ty T.n_tuple (by decide +kernel))))) (pw_or1 (t_not (t_val (d_b2 c_isi T.n_isinstance (by decide +kernel) (dv 5) (d_ty T.n_tuple (by decide +kernel))))))))).pt (s_one (s_ret d_bl)) s_nil)
    (s_cons (s_if (t_cmp (opNe hr.units) (d_lc (own := [("mark", 9)]) rfl sc__law_is_form.nd (blkOk_by (N := ["thing", "base", "head_here", "wide", "top", "rows", "rest", "before", "row", "mark"]) (sc := defScope s__law_is_form) (by decide +kernel)) (i_seq (dv 2)) (fun _ _ _ _ _ => (g_name sc__law_is_form.nd)) (fun _ _ _ _ _ => (ts_one (t_and (t_cmp opIsNot (dv 9) d_non) (pw_and1 (t_not (t_val (d_call C__law_is_sign n__law_is_sign hr (by decide) (a_cons (dv 1) (a_cons (dv 9) a_nil))))))).pt)) (fun _ _ _ _ _ => (dv 9))) (d_lst a_nil)) (s_one (s_ret d_bl)) s_nil)
    (s_cons (s_if (t_or (t_not (t_val (d_b2 c_isi T.n_isinstance (by decide +kernel) (dv 3) (d_ty T.n_str (by decide +kernel))))) (pw_or1 (t_cmp opNotIn (dv 3) (d_tup (a_cons d_str (a_cons d_str (a_cons d_str a_nil))))))).pt (s_one (s_ret d_bl)) s_nil)
    (s_cons (s_if (t_or (t_not (t_val (d_b2 c_isi T.n_isinstance (by decide +kernel) (dv 4) (d_ty T.n_int (by decide +kernel))))) (t_or (t_val (d_b2 c_isi T.n_isinstance (by decide +kernel) (dv 4) (d_ty T.n_bool (by decide +kernel)))) (pw_or1 (t_cmp opLt (dv 4) d_int)))).pt (s_one (s_ret d_bl)) s_nil)
    (s_cons (s_set sc__law_is_form.nd (d_neg d_int))
    (s_cons (s_for rfl (i_seq (dv 5)) (g_name sc__law_is_form.nd) (s_cons (s_if (t_or (t_not (t_val (d_b2 c_isi T.n_isinstance (by decide +kernel) (dv 8) (d_ty T.n_tuple (by decide +kernel))))) (t_or (t_cmp (opNe hr.units) (d_b1 c_len T.n_len (by decide +kernel) (dv 8)) d_int) (t_or (t_not (t_val (d_call C__law_is_sign n__law_is_sign hr (by decide) (a_cons (dv 1) (a_cons (d_ix ixD (dv 8) d_int) a_nil))))) (pw_or1 (t_cmp opLe (d_ix ixD (dv 8) d_int) (dv 7)))))).pt (s_one (s_ret d_bl)) s_nil)
    (s_cons (s_if (t_or (t_not (t_val (d_b2 c_isi T.n_isinstance (by decide +kernel) (d_ix ixD (dv 8) d_int) (d_ty T.n_str (by decide +kernel))))) (pw_or1 (t_cmp opNotIn (d_ix ixD (dv 8) d_int) (d_tup (a_cons d_str (a_cons d_str (a_cons d_str (a_cons d_str (a_cons d_str a_nil))))))))).pt (s_one (s_ret d_bl)) s_nil)
    (s_one (s_set sc__law_is_form.nd (d_ix ixD (dv 8) d_int))))))
    (s_one (s_ret (d_and (d_b2 c_isi T.n_isinstance (by decide +kernel) (dv 6) (d_ty T.n_str (by decide +kernel))) (pe_one (d_cmp opIn (dv 6) (d_tup (a_cons d_str (a_cons d_str a_nil))))))))))))))))
theorem ok__law_is_signs (T : Tx K w mg) (C__law_is_sign : Cal P w K mg base 1 "_law_is_sign" ["base", "thing"] (spF0 K 2 phi__law_is_sign)) (d : DefF K mg "_law_is_signs" s__law_is_signs ["base", "thing"]) : Cal P w K mg base 2 "_law_is_signs" ["base", "thing"] (spF0 K 2 phi__law_is_signs) :=
  d.cal fun f fd F => fn_ok0 (g := g__law_is_signs) F sc__law_is_signs e__law_is_signs fun cdv A outer s H E hr =>
    (s_one (s_ret (d_and (d_b2 c_isi T.n_isinstance (by decide +kernel) (dv 1) (d_ty T.n_tuple (by decide +kernel))) (pe_one (d_cmp (opEq hr.units) (d_lc (own := [("sign", 2)]) rfl sc__law_is_signs.nd (blkOk_by (N := ["base", "thing", "sign"]) (sc := defScope s__law_is_signs) (by decide +kernel)) (i_seq (dv 1)) (fun _ _ _ _ _ => (g_name sc__law_is_signs.nd)) (fun _ _ _ _ _ => (ts_one (t_not (t_val (d_call C__law_is_sign n__law_is_sign hr (by decide) (a_cons (dv 0) (a_cons (dv 2) a_nil))))))) (fun _ _ _ _ _ => (dv 2))) (d_lst a_nil))))))
theorem ok__is_word (T : Tx K w mg)  (d : DefF K mg "_is_word" s__is_word ["value", "words"]) : Cal P w K mg base 1 "_is_word" ["value", "words"] (spF0 K 2 phi__is_word) :=
  d.cal fun f fd F => fn_ok0 (g := g__is_word) F sc__is_word e__is_word fun cdv A outer s H E hr =>
    (s_one (s_ret (d_and (d_b2 c_isi T.n_isinstance (by decide +kernel) (dv 0) (d_ty T.n_str (by decide +kernel))) (pe_one (d_cmp opIn (dv 0) (dv 1))))))
theorem ok_is_integer (T : Tx K w mg)  (d : DefF K mg "is_integer" s_is_integer ["value"]) : Cal P w K mg base 1 "is_integer" ["value"] (spF0 K 1 phi_is_integer) :=
  d.cal fun f fd F => fn_ok0 (g := g_is_integer) F sc_is_integer e_is_integer fun cdv A outer s H E hr =>
    (s_one (s_ret (d_and (d_b2 c_isi T.n_isinstance (by decide +kernel) (dv 0) (d_ty T.n_int (by decide +kernel))) (pe_one (d_not (d_b2 c_isi T.n_isinstance (by decide +kernel) (dv 0) (d_ty T.n_bool (by decide +kernel))))))))
theorem ok_is_sign (T : Tx K w mg) (C_is_integer : Cal P w K mg base 1 "is_integer" ["value"] (spF0 K 1 phi_is_integer)) (d : DefF K mg "is_sign" s_is_sign ["value", "base"]) : Cal P w K mg base 2 "is_sign" ["value", "base"] (spF0 K 2 phi_is_sign) :=
  d.cal fun f fd F => fn_ok0 (g := g_is_sign) F sc_is_sign e_is_sign fun cdv A outer s H E hr =>
    (s_one (s_ret (d_and (d_call C_is_integer n_is_integer hr (by decide) (a_cons (dv 0) a_nil)) (pe_one (d_chain opLe opLt d_int (dv 0) (dv 1))))))
theorem ok__is_tag (T : Tx K w mg) (C__is_word : Cal P w K mg base 1 "_is_word" ["value", "words"] (spF0 K 2 phi__is_word)) (C_is_sign : Cal P w K mg base 2 "is_sign" ["value", "base"] (spF0 K 2 phi_is_sign)) (d : DefF K mg "_is_tag" s__is_tag ["value", "base"]) : Cal P w K mg base 3 "_is_tag" ["value", "base"] (spF0 K 2 phi__is_tag) :=
  d.cal fun f fd F => fn_ok0 (g := g__is_tag) F sc__is_tag e__is_tag fun cdv A outer s H E hr =>
    (s_cons (s_if (t_or (t_not (t_val (d_b2 c_isi T.n_isinstance (by decide +kernel) (dv 0) (d_ty T.n_tuple (by decide +kernel))))) (pw_or1 (t_cmp (opNe hr.units) (d_b1 c_len T.n_len (by decide +kernel) (dv 0)) d_int))).pt (s_one (s_ret d_bl)) s_nil)
    (s_one (s_ret (d_and (d_call C_is_sign n_is_sign hr (by decide) (a_cons (d_ix ixD (dv 0) d_int) (a_cons (dv 1) a_nil))) (pe_one (d_call C__is_word n__is_word hr (by decide) (a_cons (d_ix ixD (dv 0) d_int) (a_cons (d_glob T.c_USES) a_nil))))))))
theorem ok__are_tags (T : Tx K w mg) (C__is_tag : Cal P w K mg base 3 "_is_tag" ["value", "base"] (spF0 K 2 phi__is_tag)) (d : DefF K mg "_are_tags" s__are_tags ["value", "base"]) : Cal P w K mg base 4 "_are_tags" ["value", "base"] (spF0 K 2 phi__are_tags) :=
  d.cal fun f fd F => fn_ok0 (g := g__are_tags) F sc__are_tags e__are_tags fun cdv A outer s H E hr =>
    (s_cons (s_if (t_or (t_not (t_val (d_b2 c_isi T.n_isinstance (by decide +kernel) (dv 0) (d_ty T.n_tuple (by decide +kernel))))) (pw_or1 (t_not (t_val (d_b1 (c_all rfl) T.n_all (by decide +kernel) (d_lc (own := [("tag", 2)]) rfl sc__are_tags.nd (blkOk_by (N := ["value", "base", "tag", "k"]) (sc := defScope s__are_tags) (by decide +kernel)) (i_seq (dv 0)) (fun _ _ _ _ _ => (g_name sc__are_tags.nd)) (fun _ _ _ _ _ => ts_nil) (fun _ _ _ _ _ => (d_call C__is_tag n__is_tag hr (by decide) (a_cons (dv 2) (a_cons (dv 1) a_nil)))))))))).pt (s_one (s_ret d_bl)) s_nil)
    (s_one (s_ret (d_b1 (c_all rfl) T.n_all (by decide +kernel) (d_lc (own := [("k", 3)]) rfl sc__are_tags.nd (blkOk_by (N := ["value", "base", "tag", "k"]) (sc := defScope s__are_tags) (by decide +kernel)) (i_rg2 T.n_range d_int (d_b1 c_len T.n_len (by decide +kernel) (dv 0))) (fun _ _ _ _ _ => (g_name sc__are_tags.nd)) (fun _ _ _ _ _ => ts_nil) (fun _ _ _ _ _ => (d_cmp opLt (d_ix ixD (d_ix ixD (dv 0) (d_op opSub (dv 3) d_int)) d_int) (d_ix ixD (d_ix ixD (dv 0) (dv 3)) d_int))))))))
theorem ok__is_head (T : Tx K w mg) (C_is_sign : Cal P w K mg base 2 "is_sign" ["value", "base"] (spF0 K 2 phi_is_sign)) (d : DefF K mg "_is_head" s__is_head ["value", "base"]) : Cal P w K mg base 3 "_is_head" ["value", "base"] (spF0 K 2 phi__is_head) :=
  d.cal fun f fd F => fn_ok0 (g := g__is_head) F sc__is_head e__is_head fun cdv A outer s H E hr =>
    (s_cons (s_if (t_not (t_val (d_b2 c_isi T.n_isinstance (by decide +kernel) (dv 0) (d_ty T.n_tuple (by decide +kernel))))) (s_one (s_ret d_bl)) s_nil)
    (s_one (s_ret (d_b1 (c_all rfl) T.n_all (by decide +kernel) (d_lc (own := [("mark", 2)]) rfl sc__is_head.nd (blkOk_by (N := ["value", "base", "mark"]) (sc := defScope s__is_head) (by decide +kernel)) (i_seq (dv 0)) (fun _ _ _ _ _ => (g_name sc__is_head.nd)) (fun _ _ _ _ _ => ts_nil) (fun _ _ _ _ _ => (d_or (d_cmp opIs (dv 2) d_non) (pe_one (d_call C_is_sign n_is_sign hr (by decide) (a_cons (dv 2) (a_cons (dv 1) a_nil)))))))))))
theorem ok_is_format (T : Tx K w mg) (C__are_tags : Cal P w K mg base 4 "_are_tags" ["value", "base"] (spF0 K 2 phi__are_tags)) (C__is_head : Cal P w K mg base 3 "_is_head" ["value", "base"] (spF0 K 2 phi__is_head)) (C__is_word : Cal P w K mg base 1 "_is_word" ["value", "words"] (spF0 K 2 phi__is_word)) (C_is_integer : Cal P w K mg base 1 "is_integer" ["value"] (spF0 K 1 phi_is_integer)) (d : DefF K mg "is_format" s_is_format ["value"]) : Cal P w K mg base 5 "is_format" ["value"] (spF0 K 1 phi_is_format) :=
  d.cal fun f fd F => fn_ok0 (g := g_is_format) F sc_is_format e_is_format fun cdv A outer s H E hr =>
    (s_cons (s_if (t_or (t_not (t_val (d_b2 c_isi T.n_isinstance (by decide +kernel) (dv 0) (d_ty T.n_tuple (by decide +kernel))))) (pw_or1 (t_cmp (opNe hr.units) (d_b1 c_len T.n_len (by decide +kernel) (dv 0)) d_int))).pt (s_one (s_ret d_bl)) s_nil)
    (s_cons (s_unp (dv 0) (g_tup rfl (gs_cons sc_is_format.nd (gs_cons sc_is_format.nd (gs_cons sc_is_format.nd (gs_cons sc_is_format.nd (gs_cons sc_is_format.nd (gs_cons sc_is_format.nd gs_nil))))))))
    (s_cons (s_if (t_or (t_not (t_val (d_call C_is_integer n_is_integer hr (by decide) (a_cons (dv 1) a_nil)))) (pw_or1 (t_not (t_chain opLe opLe d_int (dv 1) d_int)))).pt (s_one (s_ret d_bl)) s_nil)
    (s_cons (s_if (t_or (t_not (t_val (d_call C__is_head n__is_head hr (by decide) (a_cons (dv 2) (a_cons (dv 1) a_nil))))) (pw_or1 (t_not (t_val (d_call C__is_word n__is_word hr (by decide) (a_cons (dv 3) (a_cons (d_glob T.c_WIDTHS) a_nil))))))).pt (s_one (s_ret d_bl)) s_nil)
    (s_cons (s_if (t_or (t_not (t_val (d_call C_is_integer n_is_integer hr (by decide) (a_cons (dv 4) a_nil)))) (pw_or1 (t_cmp opLt (dv 4) d_int))).pt (s_one (s_ret d_bl)) s_nil)
    (s_one (s_ret (d_and (d_call C__are_tags n__are_tags hr (by decide) (a_cons (dv 5) (a_cons (dv 1) a_nil))) (pe_one (d_call C__is_word n__is_word hr (by decide) (a_cons (dv 6) (a_cons (d_tup (a_cons d_str (a_cons d_str a_nil))) a_nil))))))))))))
theorem ok_check_format (T : Tx K w mg) (C_is_format : Cal P w K mg base 5 "is_format" ["value"] (spF0 K 1 phi_is_format)) (d : DefF K mg "check_format" s_check_format ["form"]) : Cal P w K mg base 6 "check_format" ["form"] (spF0 K 1 phi_check_format) :=
  d.cal fun f fd F => fn_ok0 (g := g_check_format) F sc_check_format e_check_format fun cdv A outer s H E hr =>
    (s_one (s_if (t_not (t_val (d_call C_is_format n_is_format hr (by decide) (a_cons (dv 0) a_nil)))) (s_one s_stuck) s_nil))
theorem ok_check_same_base (T : Tx K w mg)  (d : DefF K mg "check_same_base" s_check_same_base ["one", "other"]) : Cal P w K mg base 1 "check_same_base" ["one", "other"] (spF0 K 2 phi_check_same_base) :=
  d.cal fun f fd F => fn_ok0 (g := g_check_same_base) F sc_check_same_base e_check_same_base fun cdv A outer s H E hr =>
    (s_one (s_if (t_cmp (opNe hr.units) (d_ix ixD (dv 0) (d_glob T.c_BASE)) (d_ix ixD (dv 1) (d_glob T.c_BASE))) (s_one s_stuck) s_nil))
theorem ok_check_two_formats (T : Tx K w mg) (C_check_format : Cal P w K mg base 6 "check_format" ["form"] (spF0 K 1 phi_check_format)) (d : DefF K mg "check_two_formats" s_check_two_formats ["one", "other"]) : Cal P w K mg base 7 "check_two_formats" ["one", "other"] (spF0 K 2 phi_check_two_formats) :=
  d.cal fun f fd F => fn_ok0 (g := g_check_two_formats) F sc_check_two_formats e_check_two_formats fun cdv A outer s H E hr =>
    (s_cons (s_drop (d_call C_check_format n_check_format hr (by decide) (a_cons (dv 0) a_nil)))
    (s_one (s_drop (d_call C_check_format n_check_format hr (by decide) (a_cons (dv 1) a_nil)))))
theorem ok_behind_marks (T : Tx K w mg)  (d : DefF K mg "behind_marks" s_behind_marks ["form", "count"]) : Cal P w K mg base 1 "behind_marks" ["form", "count"] (spF0 K 2 phi_behind_marks) :=
  d.cal fun f fd F => fn_ok0 (g := g_behind_marks) F sc_behind_marks e_behind_marks fun cdv A outer s H E hr =>
    (s_cons (s_if (t_cmp opLt (dv 1) (d_b1 c_len T.n_len (by decide +kernel) (d_ix ixD (dv 0) (d_glob T.c_HEAD)))) (s_one (s_ret (d_tup (a_cons d_str (a_cons (dv 1) a_nil))))) s_nil)
    (s_one (s_ret (d_glob T.c_TAG))))
theorem ok_first_stand (T : Tx K w mg) (C_behind_marks : Cal P w K mg base 1 "behind_marks" ["form", "count"] (spF0 K 2 phi_behind_marks)) (d : DefF K mg "first_stand" s_first_stand ["form"]) : Cal P w K mg base 2 "first_stand" ["form"] (spF0 K 1 phi_first_stand) :=
  d.cal fun f fd F => fn_ok0 (g := g_first_stand) F sc_first_stand e_first_stand fun cdv A outer s H E hr =>
    (s_one (s_ret (d_call C_behind_marks n_behind_marks hr (by decide) (a_cons (dv 0) (a_cons d_int a_nil)))))
theorem ok_are_signs (T : Tx K w mg) (C_is_sign : Cal P w K mg base 2 "is_sign" ["value", "base"] (spF0 K 2 phi_is_sign)) (d : DefF K mg "are_signs" s_are_signs ["value", "base"]) : Cal P w K mg base 3 "are_signs" ["value", "base"] (spF0 K 2 phi_are_signs) :=
  d.cal fun f fd F => fn_ok0 (g := g_are_signs) F sc_are_signs e_are_signs fun cdv A outer s H E hr =>
    (s_one (s_ret (d_and (d_b2 c_isi T.n_isinstance (by decide +kernel) (dv 0) (d_ty T.n_tuple (by decide +kernel))) (pe_one (d_b1 (c_all rfl) T.n_all (by decide +kernel) (d_lc (own := [("sign", 2)]) rfl sc_are_signs.nd (blkOk_by (N := ["value", "base", "sign"]) (sc := defScope s_are_signs) (by decide +kernel)) (i_seq (dv 0)) (fun _ _ _ _ _ => (g_name sc_are_signs.nd)) (fun _ _ _ _ _ => ts_nil) (fun _ _ _ _ _ => (d_call C_is_sign n_is_sign hr (by decide) (a_cons (dv 2) (a_cons (dv 1) a_nil))))))))))
theorem ok_is_file (T : Tx K w mg) (C_are_signs : Cal P w K mg base 3 "are_signs" ["value", "base"] (spF0 K 2 phi_are_signs)) (C_check_format : Cal P w K mg base 6 "check_format" ["form"] (spF0 K 1 phi_check_format)) (d : DefF K mg "is_file" s_is_file ["form", "value"]) : Cal P w K mg base 7 "is_file" ["form", "value"] (spF0 K 2 phi_is_file) :=
  d.cal fun f fd F => fn_ok0 (g := g_is_file) F sc_is_file e_is_file fun cdv A outer s H E hr =>
    (s_cons (s_drop (d_call C_check_format n_check_format hr (by decide) (a_cons (dv 0) a_nil)))
    (s_one (s_ret (d_call C_are_signs n_are_signs hr (by decide) (a_cons (dv 1) (a_cons (d_ix ixD (dv 0) (d_glob T.c_BASE)) a_nil))))))
theorem ok_law (T : Tx K w mg) (C__law_any_form : Cal P w K mg base 4 "_law_any_form" ["bag", "base", "great"] (spF1 K 3 phi__law_any_form)) (C__law_bag : Cal P w K mg base 1 "_law_bag" ["script", "at"] (spF0 K 2 phi__law_bag)) (C__law_bent_file : Cal P w K mg base 2 "_law_bent_file" ["bag", "base", "signs_here"] (spF1 K 3 phi__law_bent_file)) (C__law_bent_form : Cal P w K mg base 2 "_law_bent_form" ["bag", "form_here"] (spF1 K 2 phi__law_bent_form)) (C__law_equal : Cal P w K mg base 9 "_law_equal" ["found", "due"] (spF0 K 2 phi__law_equal)) (C__law_grab : Cal P w K mg base 1 "_law_grab" ["bag", "below"] (spF1 K 2 phi__law_grab)) (C__law_is_form : Cal P w K mg base 2 "_law_is_form" ["thing"] (spF0 K 1 phi__law_is_form)) (C__law_is_signs : Cal P w K mg base 2 "_law_is_signs" ["base", "thing"] (spF0 K 2 phi__law_is_signs)) (C_check_format : Cal P w K mg base 6 "check_format" ["form"] (spF0 K 1 phi_check_format)) (C_check_same_base : Cal P w K mg base 1 "check_same_base" ["one", "other"] (spF0 K 2 phi_check_same_base)) (C_check_two_formats : Cal P w K mg base 7 "check_two_formats" ["one", "other"] (spF0 K 2 phi_check_two_formats)) (C_first_stand : Cal P w K mg base 2 "first_stand" ["form"] (spF0 K 1 phi_first_stand)) (C_is_file : Cal P w K mg base 7 "is_file" ["form", "value"] (spF0 K 2 phi_is_file)) (C_is_format : Cal P w K mg base 5 "is_format" ["value"] (spF0 K 1 phi_is_format)) {C1 C2 f1 f2 : Addr} {d1 d2 : FuncData} (R : NwR P w K mg base C1 C2 f1 f2 d1 d2) {f : Addr} {fd : FuncData} (F : Fun K "law" "law" s_law f fd) : FnOk P w K mg base CX0 12 f fd ["script"] (spF0 K 1 (phi_law_01 C1 C2)) :=
  fn_ok0 (g := g_law_01 C1 C2) F sc_law (e_law_01 C1 C2) fun cdv A outer s H E hr =>
    (s_cons (s_for rfl (i_rg1 T.n_range (d_b2 (c_max rfl) T.n_max (by decide +kernel) d_int (d_b2 (c_min rfl) T.n_min (by decide +kernel) d_int (d_b1 c_len T.n_len (by decide +kernel) (dv 0))))) (g_name sc_law.nd) (s_cons (s_own sc_law.nd (d_call C__law_bag n__law_bag hr (by decide) (a_cons (dv 0) (a_cons (dv 1) a_nil))))
    (s_one (s_for rfl (i_rg1 T.n_range d_int) (g_name sc_law.nd) (s_cons (s_set sc_law.nd (d_ix ixD (d_lst (a_cons d_int (a_cons d_int (a_cons d_int (a_cons d_int (a_cons d_int (a_cons (d_op opAdd d_int (d_call1 C__law_grab n__law_grab hr (by decide) (a_cons (dv 2) (a_cons d_int a_nil)))) a_nil))))))) (d_call1 C__law_grab n__law_grab hr (by decide) (a_cons (dv 2) (a_cons d_int a_nil)))))
    (s_cons (s_set sc_law.nd (d_call1 C__law_any_form n__law_any_form hr (by decide) (a_cons (dv 2) (a_cons (dv 4) (a_cons d_int a_nil)))))
    (s_cons (s_if (t_not (t_val (d_call C__law_equal n__law_equal hr (by decide) (a_cons (d_lst (a_cons (d_call C_is_format n_is_format hr (by decide) (a_cons (dv 5) a_nil)) (a_cons (d_callR C_is_format n_is_format hr (by decide) (k_cons (dv 5) k_nil)) a_nil))) (a_cons (d_lst (a_cons d_bl (a_cons d_bl a_nil))) a_nil))))) (s_one (s_ret d_bl)) s_nil)
    (s_cons (s_for rfl (i_rg1 T.n_range d_int) (g_name sc_law.nd) (s_cons (s_set sc_law.nd (d_call1 C__law_bent_form n__law_bent_form hr (by decide) (a_cons (dv 2) (a_cons (dv 5) a_nil))))
    (s_one (s_if (t_not (t_val (d_call C__law_equal n__law_equal hr (by decide) (a_cons (d_call C_is_format n_is_format hr (by decide) (a_cons (dv 7) a_nil)) (a_cons (d_call C__law_is_form n__law_is_form hr (by decide) (a_cons (dv 7) a_nil)) a_nil))))) (s_one (s_ret d_bl)) s_nil))))
    (s_cons (s_set sc_law.nd (d_t1 c_tuple T.n_tuple (by decide +kernel) (d_lc (own := [("k", 11)]) rfl sc_law.nd (blkOk_by (N := ["script", "at", "bag", "turn", "base", "form_here", "trial", "thing", "signs_here", "heard", "near", "k"]) (sc := defScope s_law) (by decide +kernel)) (i_rg1 T.n_range (d_call1 C__law_grab n__law_grab hr (by decide) (a_cons (dv 2) (a_cons (d_ix ixD (d_lst (a_cons d_int (a_cons d_int a_nil))) (d_call1 C__law_grab n__law_grab hr (by decide) (a_cons (dv 2) (a_cons d_int a_nil)))) a_nil)))) (fun _ _ _ _ _ => (g_name sc_law.nd)) (fun _ _ _ _ _ => ts_nil) (fun _ _ _ _ _ => (d_call1 C__law_grab n__law_grab hr (by decide) (a_cons (dv 2) (a_cons (dv 4) a_nil)))))))
    (s_cons (s_set sc_law.nd (d_lst (a_cons (d_call C_is_file n_is_file hr (by decide) (a_cons (dv 5) (a_cons (dv 8) a_nil))) (a_cons (d_callR C_is_file n_is_file hr (by decide) (k_cons (dv 8) (k_cons (dv 5) k_nil))) a_nil))))
    (s_cons (s_if (t_not (t_val (d_call C__law_equal n__law_equal hr (by decide) (a_cons (dv 9) (a_cons (d_lst (a_cons d_bl (a_cons d_bl a_nil))) a_nil))))) (s_one (s_ret d_bl)) s_nil)
    (s_cons (s_for rfl (i_rg1 T.n_range d_int) (g_name sc_law.nd) (s_cons (s_set sc_law.nd (d_call1 C__law_bent_file n__law_bent_file hr (by decide) (a_cons (dv 2) (a_cons (dv 4) (a_cons (dv 8) a_nil)))))
    (s_one (s_if (t_not (t_val (d_call C__law_equal n__law_equal hr (by decide) (a_cons (d_call C_is_file n_is_file hr (by decide) (a_cons (dv 5) (a_cons (dv 7) a_nil))) (a_cons (d_call C__law_is_signs n__law_is_signs hr (by decide) (a_cons (dv 4) (a_cons (dv 7) a_nil))) a_nil))))) (s_one (s_ret d_bl)) s_nil))))
    (s_cons (s_set sc_law.nd (d_tup (a_cons d_int (a_cons (d_tup a_nil) (a_cons d_str (a_cons d_int (a_cons (d_tup a_nil) (a_cons d_str a_nil))))))))
    (s_one (s_for rfl (i_seq (d_tup (a_cons (d_make R.mR R.iR R.gR (hr.mono (by decide)) R.nR R.bR (a_cons (dv 10) a_nil)) (a_cons (d_make R.mP R.iP R.gP (hr.mono (by decide)) R.nP R.bP (a_cons (dv 10) (a_cons (dv 10) a_nil))) a_nil)))) (g_name sc_law.nd) (s_one (s_if (t_or (t_cmp opIsNotB (d_call C_is_format n_is_format hr (by decide) (a_cons (dv 7) a_nil)) d_bl) (pw_or1 (t_cmp opIsNotB (d_call C_is_file n_is_file hr (by decide) (a_cons (dv 5) (a_cons (dv 7) a_nil))) d_bl))).pt (s_one (s_ret d_bl)) s_nil)))))))))))))))))
    (s_cons (s_if (t_cmp opIsNotB (d_call C_is_format n_is_format hr (by decide) (a_cons (d_tup (a_cons d_int (a_cons (d_tup a_nil) (a_cons d_str (a_cons d_int (a_cons (d_tup (a_cons (d_tup (a_cons d_int (a_cons d_str a_nil))) (a_cons (d_tup (a_cons d_int (a_cons d_str a_nil))) (a_cons (d_tup (a_cons d_int (a_cons d_str a_nil))) a_nil)))) (a_cons d_str a_nil))))))) a_nil)) d_bl) (s_one (s_ret d_bl)) s_nil)
    (s_one (s_ret (d_and (d_cmp opIsB (d_call C_is_format n_is_format hr (by decide) (a_cons (d_tup (a_cons d_int (a_cons (d_tup a_nil) (a_cons d_str (a_cons d_int (a_cons (d_tup a_nil) (a_cons d_str a_nil))))))) a_nil)) d_bl) (pe_one (d_cmp opIsB (d_call C_is_file n_is_file hr (by decide) (a_cons (d_tup (a_cons d_int (a_cons (d_tup a_nil) (a_cons d_str (a_cons d_int (a_cons (d_tup a_nil) (a_cons d_str a_nil))))))) (a_cons (d_tup a_nil) a_nil))) d_bl)))))))
/-- the whole law, from the defs as the top leaves them -/
theorem all_ok (T : Tx K w mg) {C1 C2 f1 f2 : Addr} {d1 d2 : FuncData} (RF : RkF K mg C1 C2 f1 f2 d1 d2)  (d__law_grab : DefF K mg "_law_grab" s__law_grab ["bag", "below"]) (d__law_drawn_tags : DefF K mg "_law_drawn_tags" s__law_drawn_tags ["bag", "base", "many_here"]) (d__law_drawn_form : DefF K mg "_law_drawn_form" s__law_drawn_form ["bag", "base", "marks_here", "most_here", "many_here"]) (d__law_any_form : DefF K mg "_law_any_form" s__law_any_form ["bag", "base", "great"]) (d__law_bag : DefF K mg "_law_bag" s__law_bag ["script", "at"]) (d__law_bent_file : DefF K mg "_law_bent_file" s__law_bent_file ["bag", "base", "signs_here"]) (d__law_bent_form : DefF K mg "_law_bent_form" s__law_bent_form ["bag", "form_here"]) (d__law_equal : DefF K mg "_law_equal" s__law_equal ["found", "due"]) (d__law_is_sign : DefF K mg "_law_is_sign" s__law_is_sign ["base", "thing"]) (d__law_is_form : DefF K mg "_law_is_form" s__law_is_form ["thing"]) (d__law_is_signs : DefF K mg "_law_is_signs" s__law_is_signs ["base", "thing"]) (d__is_word : DefF K mg "_is_word" s__is_word ["value", "words"]) (d_is_integer : DefF K mg "is_integer" s_is_integer ["value"]) (d_is_sign : DefF K mg "is_sign" s_is_sign ["value", "base"]) (d__is_tag : DefF K mg "_is_tag" s__is_tag ["value", "base"]) (d__are_tags : DefF K mg "_are_tags" s__are_tags ["value", "base"]) (d__is_head : DefF K mg "_is_head" s__is_head ["value", "base"]) (d_is_format : DefF K mg "is_format" s_is_format ["value"]) (d_check_format : DefF K mg "check_format" s_check_format ["form"]) (d_check_same_base : DefF K mg "check_same_base" s_check_same_base ["one", "other"]) (d_check_two_formats : DefF K mg "check_two_formats" s_check_two_formats ["one", "other"]) (d_behind_marks : DefF K mg "behind_marks" s_behind_marks ["form", "count"]) (d_first_stand : DefF K mg "first_stand" s_first_stand ["form"]) (d_are_signs : DefF K mg "are_signs" s_are_signs ["value", "base"]) (d_is_file : DefF K mg "is_file" s_is_file ["form", "value"]) {f : Addr} {fd : FuncData} (F : Fun K "law" "law" s_law f fd) : FnOk P w K mg base CX0 12 f fd ["script"] (spL01 K) := by
  have C__law_grab : Cal P w K mg base 1 "_law_grab" ["bag", "below"] (spF1 K 2 phi__law_grab) := ok__law_grab T  d__law_grab
  have C__law_drawn_tags : Cal P w K mg base 2 "_law_drawn_tags" ["bag", "base", "many_here"] (spF1 K 3 phi__law_drawn_tags) := ok__law_drawn_tags T C__law_grab d__law_drawn_tags
  have C__law_drawn_form : Cal P w K mg base 3 "_law_drawn_form" ["bag", "base", "marks_here", "most_here", "many_here"] (spF1 K 5 phi__law_drawn_form) := ok__law_drawn_form T C__law_drawn_tags C__law_grab d__law_drawn_form
  have C__law_any_form : Cal P w K mg base 4 "_law_any_form" ["bag", "base", "great"] (spF1 K 3 phi__law_any_form) := ok__law_any_form T C__law_drawn_form C__law_grab d__law_any_form
  have C__law_bag : Cal P w K mg base 1 "_law_bag" ["script", "at"] (spF0 K 2 phi__law_bag) := ok__law_bag T  d__law_bag
  have C__law_bent_file : Cal P w K mg base 2 "_law_bent_file" ["bag", "base", "signs_here"] (spF1 K 3 phi__law_bent_file) := ok__law_bent_file T C__law_grab d__law_bent_file
  have C__law_bent_form : Cal P w K mg base 2 "_law_bent_form" ["bag", "form_here"] (spF1 K 2 phi__law_bent_form) := ok__law_bent_form T C__law_grab d__law_bent_form
  have C__law_equal : Cal P w K mg base 9 "_law_equal" ["found", "due"] (spF0 K 2 phi__law_equal) := (show Cal P w K mg base 9 "_law_equal" ["found", "due"] (spF0 K 2 phi__law_equal) from ok__law_equal T  d__law_equal 8)
  have C__law_is_sign : Cal P w K mg base 1 "_law_is_sign" ["base", "thing"] (spF0 K 2 phi__law_is_sign) := ok__law_is_sign T  d__law_is_sign
  have C__law_is_form : Cal P w K mg base 2 "_law_is_form" ["thing"] (spF0 K 1 phi__law_is_form) := ok__law_is_form T C__law_is_sign d__law_is_form
  have C__law_is_signs : Cal P w K mg base 2 "_law_is_signs" ["base", "thing"] (spF0 K 2 phi__law_is_signs) := ok__law_is_signs T C__law_is_sign d__law_is_signs
  have C__is_word : Cal P w K mg base 1 "_is_word" ["value", "words"] (spF0 K 2 phi__is_word) := ok__is_word T  d__is_word
  have C_is_integer : Cal P w K mg base 1 "is_integer" ["value"] (spF0 K 1 phi_is_integer) := ok_is_integer T  d_is_integer
  have C_is_sign : Cal P w K mg base 2 "is_sign" ["value", "base"] (spF0 K 2 phi_is_sign) := ok_is_sign T C_is_integer d_is_sign
  have C__is_tag : Cal P w K mg base 3 "_is_tag" ["value", "base"] (spF0 K 2 phi__is_tag) := ok__is_tag T C__is_word C_is_sign d__is_tag
  have C__are_tags : Cal P w K mg base 4 "_are_tags" ["value", "base"] (spF0 K 2 phi__are_tags) := ok__are_tags T C__is_tag d__are_tags
  have C__is_head : Cal P w K mg base 3 "_is_head" ["value", "base"] (spF0 K 2 phi__is_head) := ok__is_head T C_is_sign d__is_head
  have C_is_format : Cal P w K mg base 5 "is_format" ["value"] (spF0 K 1 phi_is_format) := ok_is_format T C__are_tags C__is_head C__is_word C_is_integer d_is_format
  have C_check_format : Cal P w K mg base 6 "check_format" ["form"] (spF0 K 1 phi_check_format) := ok_check_format T C_is_format d_check_format
  have C_check_same_base : Cal P w K mg base 1 "check_same_base" ["one", "other"] (spF0 K 2 phi_check_same_base) := ok_check_same_base T  d_check_same_base
  have C_check_two_formats : Cal P w K mg base 7 "check_two_formats" ["one", "other"] (spF0 K 2 phi_check_two_formats) := ok_check_two_formats T C_check_format d_check_two_formats
  have C_behind_marks : Cal P w K mg base 1 "behind_marks" ["form", "count"] (spF0 K 2 phi_behind_marks) := ok_behind_marks T  d_behind_marks
  have C_first_stand : Cal P w K mg base 2 "first_stand" ["form"] (spF0 K 1 phi_first_stand) := ok_first_stand T C_behind_marks d_first_stand
  have C_are_signs : Cal P w K mg base 3 "are_signs" ["value", "base"] (spF0 K 2 phi_are_signs) := ok_are_signs T C_is_sign d_are_signs
  have C_is_file : Cal P w K mg base 7 "is_file" ["form", "value"] (spF0 K 2 phi_is_file) := ok_is_file T C_are_signs C_check_format d_is_file
  have R : NwR P w K mg base C1 C2 f1 f2 d1 d2 := ⟨RF.mR, RF.iR, rinit_new ((ok_rinit (k := 8) RF.fR RF.tR (by decide) (by decide) C_check_format C_first_stand).mono (by decide)), RF.nR, RF.bR, RF.mP, RF.iP, (ok_pinit (k := 8) RF.fP RF.tP (by decide) (by decide) C_check_two_formats C_check_same_base).mono (by decide), RF.nP, RF.bP⟩
  exact (ok_law T C__law_any_form C__law_bag C__law_bent_file C__law_bent_form C__law_equal C__law_grab C__law_is_form C__law_is_signs C_check_format C_check_same_base C_check_two_formats C_first_stand C_is_file C_is_format R F).imp fun vs H Q E h => h C1 C2
end
section
variable {P : Program} {w : World} {K : PySem.W.Frag} {mg : Str → Option Value}
theorem fin {h : Heap} {fa : Addr} (X : K.In h) (G : h.Ns mainGlobals mg) (hfa : mg "law" = some (.ref fa))
    {C_R fI_R C_P fI_P : Addr} (aC_R : PySem.W.nsIn K mainGlobals "Reader" = some (some (.ref C_R))) (mk_R : PySem.W.makesIn K C_R = true) (in_R : PySem.W.findIn K (.ref C_R) "__init__" = some (some (.ref fI_R))) (fi_R : PySem.W.isFn K (.ref fI_R) = true) (kc_R : PySem.W.keepIn K (.ref C_R) = true) (pg_R : PySem.W.plainGet K C_R Str.empty = true) (hd_R : PySem.W.hasDictIn K C_R = true) (po_R : PySem.W.plainOver K C_R = true) (sa_R : PySem.W.findIn K (.ref C_R) "__setattr__" = some (some (.builtin "object.__setattr__"))) (nform_R : PySem.W.findIn K (.ref C_R) "_form" = some none) (nsigns_R : PySem.W.findIn K (.ref C_R) "_signs" = some none) (nalong_R : PySem.W.findIn K (.ref C_R) "_along" = some none) (fc_R : PySem.W.findIn K (.ref C_R) "__class__" = some (some (.builtin "object.__class__"))) (mr_R : PySem.W.mroIn K C_R (.type "object") = some true) (kdint_R : PySem.W.kitOne K (.ref C_R) (.type "int") = some false) (kdbool_R : PySem.W.kitOne K (.ref C_R) (.type "bool") = some false) (kdstr_R : PySem.W.kitOne K (.ref C_R) (.type "str") = some false) (kdlist_R : PySem.W.kitOne K (.ref C_R) (.type "list") = some false) (kdtuple_R : PySem.W.kitOne K (.ref C_R) (.type "tuple") = some false) (kddict_R : PySem.W.kitOne K (.ref C_R) (.type "dict") = some false) (aC_P : PySem.W.nsIn K mainGlobals "Pair" = some (some (.ref C_P))) (mk_P : PySem.W.makesIn K C_P = true) (in_P : PySem.W.findIn K (.ref C_P) "__init__" = some (some (.ref fI_P))) (fi_P : PySem.W.isFn K (.ref fI_P) = true) (kc_P : PySem.W.keepIn K (.ref C_P) = true) (pg_P : PySem.W.plainGet K C_P Str.empty = true) (hd_P : PySem.W.hasDictIn K C_P = true) (po_P : PySem.W.plainOver K C_P = true) (sa_P : PySem.W.findIn K (.ref C_P) "__setattr__" = some (some (.builtin "object.__setattr__"))) (none_P : PySem.W.findIn K (.ref C_P) "_one" = some none) (nother_P : PySem.W.findIn K (.ref C_P) "_other" = some none) (fc_P : PySem.W.findIn K (.ref C_P) "__class__" = some (some (.builtin "object.__class__"))) (mr_P : PySem.W.mroIn K C_P (.type "object") = some true) (kdint_P : PySem.W.kitOne K (.ref C_P) (.type "int") = some false) (kdbool_P : PySem.W.kitOne K (.ref C_P) (.type "bool") = some false) (kdstr_P : PySem.W.kitOne K (.ref C_P) (.type "str") = some false) (kdlist_P : PySem.W.kitOne K (.ref C_P) (.type "list") = some false) (kdtuple_P : PySem.W.kitOne K (.ref C_P) (.type "tuple") = some false) (kddict_P : PySem.W.kitOne K (.ref C_P) (.type "dict") = some false) (sp_0 : PySem.W.specialIn K (.builtin "object.__class__") "__get__" = some (some (.builtin "getset_descriptor.__get__"))) (tk_0 : PySem.W.takesIn K (.builtin "object.__class__") = some true)
    {oc_RI kV_RI dc_RI pm_RI cd_RI ct_RI : Value} {od_RI an_RI : Option Addr} {sl_RI : Array (Option Value)} (l_RI : K.lookup fI_R = some ⟨oc_RI, od_RI, .func (PySem.W.fnOf "__init__" "Reader.__init__" (defArgs s_rinit) (defBody s_rinit) (defScope s_rinit) .none kV_RI dc_RI pm_RI an_RI cd_RI ct_RI), sl_RI⟩) (c_RI : PySem.W.codeIn K cd_RI "Reader.__init__" = true) (k_RI : PySem.W.keepIn K (.ref fI_R) = true)
    {oc_PI kV_PI dc_PI pm_PI cd_PI ct_PI : Value} {od_PI an_PI : Option Addr} {sl_PI : Array (Option Value)} (l_PI : K.lookup fI_P = some ⟨oc_PI, od_PI, .func (PySem.W.fnOf "__init__" "Pair.__init__" (defArgs s_pinit) (defBody s_pinit) (defScope s_pinit) .none kV_PI dc_PI pm_PI an_PI cd_PI ct_PI), sl_PI⟩) (c_PI : PySem.W.codeIn K cd_PI "Pair.__init__" = true) (k_PI : PySem.W.keepIn K (.ref fI_P) = true)
    (z_abs : PySem.W.nsIn K mainGlobals "abs" = some none)
    (z_all : PySem.W.nsIn K mainGlobals "all" = some none)
    (z_bool : PySem.W.nsIn K mainGlobals "bool" = some none)
    (z_int : PySem.W.nsIn K mainGlobals "int" = some none)
    (z_isinstance : PySem.W.nsIn K mainGlobals "isinstance" = some none)
    (z_len : PySem.W.nsIn K mainGlobals "len" = some none)
    (z_list : PySem.W.nsIn K mainGlobals "list" = some none)
    (z_max : PySem.W.nsIn K mainGlobals "max" = some none)
    (z_min : PySem.W.nsIn K mainGlobals "min" = some none)
    (z_range : PySem.W.nsIn K mainGlobals "range" = some none)
    (z_str : PySem.W.nsIn K mainGlobals "str" = some none)
    (z_tuple : PySem.W.nsIn K mainGlobals "tuple" = some none)
    {t_BASE : Tok} (a_BASE : PySem.W.nsIn K mainGlobals "BASE" = some (some (.int (0) t_BASE)))
    {t_HEAD : Tok} (a_HEAD : PySem.W.nsIn K mainGlobals "HEAD" = some (some (.int (1) t_HEAD)))
    {p_TAG : Addr} {q_TAG : Option Addr} {i_TAG : Array Value} {n_TAG : Nat} {s_TAG : Array (Option Value)} (a_TAG : PySem.W.nsIn K mainGlobals "TAG" = some (some (.ref p_TAG))) (l_TAG : K.lookup p_TAG = some ⟨.type "tuple", q_TAG, .seq i_TAG n_TAG, s_TAG⟩) (r_TAG : Vals ([(.str "tag")].map toV) i_TAG.toList) (y_TAG : i_TAG.size ≤ 16777216)
    {p_USES : Addr} {q_USES : Option Addr} {i_USES : Array Value} {n_USES : Nat} {s_USES : Array (Option Value)} (a_USES : PySem.W.nsIn K mainGlobals "USES" = some (some (.ref p_USES))) (l_USES : K.lookup p_USES = some ⟨.type "tuple", q_USES, .seq i_USES n_USES, s_USES⟩) (r_USES : Vals ([(.str "keep"), (.str "check"), (.str "skip"), (.str "end"), (.str "stop")].map toV) i_USES.toList) (y_USES : i_USES.size ≤ 16777216)
    {p_WIDTHS : Addr} {q_WIDTHS : Option Addr} {i_WIDTHS : Array Value} {n_WIDTHS : Nat} {s_WIDTHS : Array (Option Value)} (a_WIDTHS : PySem.W.nsIn K mainGlobals "WIDTHS" = some (some (.ref p_WIDTHS))) (l_WIDTHS : K.lookup p_WIDTHS = some ⟨.type "tuple", q_WIDTHS, .seq i_WIDTHS n_WIDTHS, s_WIDTHS⟩) (r_WIDTHS : Vals ([(.str "one"), (.str "high"), (.str "low")].map toV) i_WIDTHS.toList) (y_WIDTHS : i_WIDTHS.size ≤ 16777216)
    {f__law_grab : Addr} {oc__law_grab kV__law_grab doc__law_grab pm__law_grab cdv__law_grab ct__law_grab : Value} {od__law_grab an__law_grab : Option Addr} {sl__law_grab : Array (Option Value)} (a__law_grab : PySem.W.nsIn K mainGlobals "_law_grab" = some (some (.ref f__law_grab))) (l__law_grab : K.lookup f__law_grab = some ⟨oc__law_grab, od__law_grab, .func (PySem.W.fnOf "_law_grab" "_law_grab" (defArgs s__law_grab) (defBody s__law_grab) (defScope s__law_grab) .none kV__law_grab doc__law_grab pm__law_grab an__law_grab cdv__law_grab ct__law_grab), sl__law_grab⟩) (c__law_grab : PySem.W.codeIn K cdv__law_grab "_law_grab" = true) (k__law_grab : PySem.W.keepIn K (.ref f__law_grab) = true)
    {f__law_drawn_tags : Addr} {oc__law_drawn_tags kV__law_drawn_tags doc__law_drawn_tags pm__law_drawn_tags cdv__law_drawn_tags ct__law_drawn_tags : Value} {od__law_drawn_tags an__law_drawn_tags : Option Addr} {sl__law_drawn_tags : Array (Option Value)} (a__law_drawn_tags : PySem.W.nsIn K mainGlobals "_law_drawn_tags" = some (some (.ref f__law_drawn_tags))) (l__law_drawn_tags : K.lookup f__law_drawn_tags = some ⟨oc__law_drawn_tags, od__law_drawn_tags, .func (PySem.W.fnOf "_law_drawn_tags" "_law_drawn_tags" (defArgs s__law_drawn_tags) (defBody s__law_drawn_tags) (defScope s__law_drawn_tags) .none kV__law_drawn_tags doc__law_drawn_tags pm__law_drawn_tags an__law_drawn_tags cdv__law_drawn_tags ct__law_drawn_tags), sl__law_drawn_tags⟩) (c__law_drawn_tags : PySem.W.codeIn K cdv__law_drawn_tags "_law_drawn_tags" = true) (k__law_drawn_tags : PySem.W.keepIn K (.ref f__law_drawn_tags) = true)
    {f__law_drawn_form : Addr} {oc__law_drawn_form kV__law_drawn_form doc__law_drawn_form pm__law_drawn_form cdv__law_drawn_form ct__law_drawn_form : Value} {od__law_drawn_form an__law_drawn_form : Option Addr} {sl__law_drawn_form : Array (Option Value)} (a__law_drawn_form : PySem.W.nsIn K mainGlobals "_law_drawn_form" = some (some (.ref f__law_drawn_form))) (l__law_drawn_form : K.lookup f__law_drawn_form = some ⟨oc__law_drawn_form, od__law_drawn_form, .func (PySem.W.fnOf "_law_drawn_form" "_law_drawn_form" (defArgs s__law_drawn_form) (defBody s__law_drawn_form) (defScope s__law_drawn_form) .none kV__law_drawn_form doc__law_drawn_form pm__law_drawn_form an__law_drawn_form cdv__law_drawn_form ct__law_drawn_form), sl__law_drawn_form⟩) (c__law_drawn_form : PySem.W.codeIn K cdv__law_drawn_form "_law_drawn_form" = true) (k__law_drawn_form : PySem.W.keepIn K (.ref f__law_drawn_form) = true)
    {f__law_any_form : Addr} {oc__law_any_form kV__law_any_form doc__law_any_form pm__law_any_form cdv__law_any_form ct__law_any_form : Value} {od__law_any_form an__law_any_form : Option Addr} {sl__law_any_form : Array (Option Value)} (a__law_any_form : PySem.W.nsIn K mainGlobals "_law_any_form" = some (some (.ref f__law_any_form))) (l__law_any_form : K.lookup f__law_any_form = some ⟨oc__law_any_form, od__law_any_form, .func (PySem.W.fnOf "_law_any_form" "_law_any_form" (defArgs s__law_any_form) (defBody s__law_any_form) (defScope s__law_any_form) .none kV__law_any_form doc__law_any_form pm__law_any_form an__law_any_form cdv__law_any_form ct__law_any_form), sl__law_any_form⟩) (c__law_any_form : PySem.W.codeIn K cdv__law_any_form "_law_any_form" = true) (k__law_any_form : PySem.W.keepIn K (.ref f__law_any_form) = true)
    {f__law_bag : Addr} {oc__law_bag kV__law_bag doc__law_bag pm__law_bag cdv__law_bag ct__law_bag : Value} {od__law_bag an__law_bag : Option Addr} {sl__law_bag : Array (Option Value)} (a__law_bag : PySem.W.nsIn K mainGlobals "_law_bag" = some (some (.ref f__law_bag))) (l__law_bag : K.lookup f__law_bag = some ⟨oc__law_bag, od__law_bag, .func (PySem.W.fnOf "_law_bag" "_law_bag" (defArgs s__law_bag) (defBody s__law_bag) (defScope s__law_bag) .none kV__law_bag doc__law_bag pm__law_bag an__law_bag cdv__law_bag ct__law_bag), sl__law_bag⟩) (c__law_bag : PySem.W.codeIn K cdv__law_bag "_law_bag" = true) (k__law_bag : PySem.W.keepIn K (.ref f__law_bag) = true)
    {f__law_bent_file : Addr} {oc__law_bent_file kV__law_bent_file doc__law_bent_file pm__law_bent_file cdv__law_bent_file ct__law_bent_file : Value} {od__law_bent_file an__law_bent_file : Option Addr} {sl__law_bent_file : Array (Option Value)} (a__law_bent_file : PySem.W.nsIn K mainGlobals "_law_bent_file" = some (some (.ref f__law_bent_file))) (l__law_bent_file : K.lookup f__law_bent_file = some ⟨oc__law_bent_file, od__law_bent_file, .func (PySem.W.fnOf "_law_bent_file" "_law_bent_file" (defArgs s__law_bent_file) (defBody s__law_bent_file) (defScope s__law_bent_file) .none kV__law_bent_file doc__law_bent_file pm__law_bent_file an__law_bent_file cdv__law_bent_file ct__law_bent_file), sl__law_bent_file⟩) (c__law_bent_file : PySem.W.codeIn K cdv__law_bent_file "_law_bent_file" = true) (k__law_bent_file : PySem.W.keepIn K (.ref f__law_bent_file) = true)
    {f__law_bent_form : Addr} {oc__law_bent_form kV__law_bent_form doc__law_bent_form pm__law_bent_form cdv__law_bent_form ct__law_bent_form : Value} {od__law_bent_form an__law_bent_form : Option Addr} {sl__law_bent_form : Array (Option Value)} (a__law_bent_form : PySem.W.nsIn K mainGlobals "_law_bent_form" = some (some (.ref f__law_bent_form))) (l__law_bent_form : K.lookup f__law_bent_form = some ⟨oc__law_bent_form, od__law_bent_form, .func (PySem.W.fnOf "_law_bent_form" "_law_bent_form" (defArgs s__law_bent_form) (defBody s__law_bent_form) (defScope s__law_bent_form) .none kV__law_bent_form doc__law_bent_form pm__law_bent_form an__law_bent_form cdv__law_bent_form ct__law_bent_form), sl__law_bent_form⟩) (c__law_bent_form : PySem.W.codeIn K cdv__law_bent_form "_law_bent_form" = true) (k__law_bent_form : PySem.W.keepIn K (.ref f__law_bent_form) = true)
    {f__law_equal : Addr} {oc__law_equal kV__law_equal doc__law_equal pm__law_equal cdv__law_equal ct__law_equal : Value} {od__law_equal an__law_equal : Option Addr} {sl__law_equal : Array (Option Value)} (a__law_equal : PySem.W.nsIn K mainGlobals "_law_equal" = some (some (.ref f__law_equal))) (l__law_equal : K.lookup f__law_equal = some ⟨oc__law_equal, od__law_equal, .func (PySem.W.fnOf "_law_equal" "_law_equal" (defArgs s__law_equal) (defBody s__law_equal) (defScope s__law_equal) .none kV__law_equal doc__law_equal pm__law_equal an__law_equal cdv__law_equal ct__law_equal), sl__law_equal⟩) (c__law_equal : PySem.W.codeIn K cdv__law_equal "_law_equal" = true) (k__law_equal : PySem.W.keepIn K (.ref f__law_equal) = true)
    {f__law_is_sign : Addr} {oc__law_is_sign kV__law_is_sign doc__law_is_sign pm__law_is_sign cdv__law_is_sign ct__law_is_sign : Value} {od__law_is_sign an__law_is_sign : Option Addr} {sl__law_is_sign : Array (Option Value)} (a__law_is_sign : PySem.W.nsIn K mainGlobals "_law_is_sign" = some (some (.ref f__law_is_sign))) (l__law_is_sign : K.lookup f__law_is_sign = some ⟨oc__law_is_sign, od__law_is_sign, .func (PySem.W.fnOf "_law_is_sign" "_law_is_sign" (defArgs s__law_is_sign) (defBody s__law_is_sign) (defScope s__law_is_sign) .none kV__law_is_sign doc__law_is_sign pm__law_is_sign an__law_is_sign cdv__law_is_sign ct__law_is_sign), sl__law_is_sign⟩) (c__law_is_sign : PySem.W.codeIn K cdv__law_is_sign "_law_is_sign" = true) (k__law_is_sign : PySem.W.keepIn K (.ref f__law_is_sign) = true)
    {f__law_is_form : Addr} {oc__law_is_form kV__law_is_form doc__law_is_form pm__law_is_form cdv__law_is_form ct__law_is_form : Value} {od__law_is_form an__law_is_form : Option Addr} {sl__law_is_form : Array (Option Value)} (a__law_is_form : PySem.W.nsIn K mainGlobals "_law_is_form" = some (some (.ref f__law_is_form))) (l__law_is_form : K.lookup f__law_is_form = some ⟨oc__law_is_form, od__law_is_form, .func (PySem.W.fnOf "_law_is_form" "_law_is_form" (defArgs s__law_is_form) (defBody s__law_is_form) (defScope s__law_is_form) .none kV__law_is_form doc__law_is_form pm__law_is_form an__law_is_form cdv__law_is_form ct__law_is_form), sl__law_is_form⟩) (c__law_is_form : PySem.W.codeIn K cdv__law_is_form "_law_is_form" = true) (k__law_is_form : PySem.W.keepIn K (.ref f__law_is_form) = true)
    {f__law_is_signs : Addr} {oc__law_is_signs kV__law_is_signs doc__law_is_signs pm__law_is_signs cdv__law_is_signs ct__law_is_signs : Value} {od__law_is_signs an__law_is_signs : Option Addr} {sl__law_is_signs : Array (Option Value)} (a__law_is_signs : PySem.W.nsIn K mainGlobals "_law_is_signs" = some (some (.ref f__law_is_signs))) (l__law_is_signs : K.lookup f__law_is_signs = some ⟨oc__law_is_signs, od__law_is_signs, .func (PySem.W.fnOf "_law_is_signs" "_law_is_signs" (defArgs s__law_is_signs) (defBody s__law_is_signs) (defScope s__law_is_signs) .none kV__law_is_signs doc__law_is_signs pm__law_is_signs an__law_is_signs cdv__law_is_signs ct__law_is_signs), sl__law_is_signs⟩) (c__law_is_signs : PySem.W.codeIn K cdv__law_is_signs "_law_is_signs" = true) (k__law_is_signs : PySem.W.keepIn K (.ref f__law_is_signs) = true)
    {f__is_word : Addr} {oc__is_word kV__is_word doc__is_word pm__is_word cdv__is_word ct__is_word : Value} {od__is_word an__is_word : Option Addr} {sl__is_word : Array (Option Value)} (a__is_word : PySem.W.nsIn K mainGlobals "_is_word" = some (some (.ref f__is_word))) (l__is_word : K.lookup f__is_word = some ⟨oc__is_word, od__is_word, .func (PySem.W.fnOf "_is_word" "_is_word" (defArgs s__is_word) (defBody s__is_word) (defScope s__is_word) .none kV__is_word doc__is_word pm__is_word an__is_word cdv__is_word ct__is_word), sl__is_word⟩) (c__is_word : PySem.W.codeIn K cdv__is_word "_is_word" = true) (k__is_word : PySem.W.keepIn K (.ref f__is_word) = true)
    {f_is_integer : Addr} {oc_is_integer kV_is_integer doc_is_integer pm_is_integer cdv_is_integer ct_is_integer : Value} {od_is_integer an_is_integer : Option Addr} {sl_is_integer : Array (Option Value)} (a_is_integer : PySem.W.nsIn K mainGlobals "is_integer" = some (some (.ref f_is_integer))) (l_is_integer : K.lookup f_is_integer = some ⟨oc_is_integer, od_is_integer, .func (PySem.W.fnOf "is_integer" "is_integer" (defArgs s_is_integer) (defBody s_is_integer) (defScope s_is_integer) .none kV_is_integer doc_is_integer pm_is_integer an_is_integer cdv_is_integer ct_is_integer), sl_is_integer⟩) (c_is_integer : PySem.W.codeIn K cdv_is_integer "is_integer" = true) (k_is_integer : PySem.W.keepIn K (.ref f_is_integer) = true)
    {f_is_sign : Addr} {oc_is_sign kV_is_sign doc_is_sign pm_is_sign cdv_is_sign ct_is_sign : Value} {od_is_sign an_is_sign : Option Addr} {sl_is_sign : Array (Option Value)} (a_is_sign : PySem.W.nsIn K mainGlobals "is_sign" = some (some (.ref f_is_sign))) (l_is_sign : K.lookup f_is_sign = some ⟨oc_is_sign, od_is_sign, .func (PySem.W.fnOf "is_sign" "is_sign" (defArgs s_is_sign) (defBody s_is_sign) (defScope s_is_sign) .none kV_is_sign doc_is_sign pm_is_sign an_is_sign cdv_is_sign ct_is_sign), sl_is_sign⟩) (c_is_sign : PySem.W.codeIn K cdv_is_sign "is_sign" = true) (k_is_sign : PySem.W.keepIn K (.ref f_is_sign) = true)
    {f__is_tag : Addr} {oc__is_tag kV__is_tag doc__is_tag pm__is_tag cdv__is_tag ct__is_tag : Value} {od__is_tag an__is_tag : Option Addr} {sl__is_tag : Array (Option Value)} (a__is_tag : PySem.W.nsIn K mainGlobals "_is_tag" = some (some (.ref f__is_tag))) (l__is_tag : K.lookup f__is_tag = some ⟨oc__is_tag, od__is_tag, .func (PySem.W.fnOf "_is_tag" "_is_tag" (defArgs s__is_tag) (defBody s__is_tag) (defScope s__is_tag) .none kV__is_tag doc__is_tag pm__is_tag an__is_tag cdv__is_tag ct__is_tag), sl__is_tag⟩) (c__is_tag : PySem.W.codeIn K cdv__is_tag "_is_tag" = true) (k__is_tag : PySem.W.keepIn K (.ref f__is_tag) = true)
    {f__are_tags : Addr} {oc__are_tags kV__are_tags doc__are_tags pm__are_tags cdv__are_tags ct__are_tags : Value} {od__are_tags an__are_tags : Option Addr} {sl__are_tags : Array (Option Value)} (a__are_tags : PySem.W.nsIn K mainGlobals "_are_tags" = some (some (.ref f__are_tags))) (l__are_tags : K.lookup f__are_tags = some ⟨oc__are_tags, od__are_tags, .func (PySem.W.fnOf "_are_tags" "_are_tags" (defArgs s__are_tags) (defBody s__are_tags) (defScope s__are_tags) .none kV__are_tags doc__are_tags pm__are_tags an__are_tags cdv__are_tags ct__are_tags), sl__are_tags⟩) (c__are_tags : PySem.W.codeIn K cdv__are_tags "_are_tags" = true) (k__are_tags : PySem.W.keepIn K (.ref f__are_tags) = true)
    {f__is_head : Addr} {oc__is_head kV__is_head doc__is_head pm__is_head cdv__is_head ct__is_head : Value} {od__is_head an__is_head : Option Addr} {sl__is_head : Array (Option Value)} (a__is_head : PySem.W.nsIn K mainGlobals "_is_head" = some (some (.ref f__is_head))) (l__is_head : K.lookup f__is_head = some ⟨oc__is_head, od__is_head, .func (PySem.W.fnOf "_is_head" "_is_head" (defArgs s__is_head) (defBody s__is_head) (defScope s__is_head) .none kV__is_head doc__is_head pm__is_head an__is_head cdv__is_head ct__is_head), sl__is_head⟩) (c__is_head : PySem.W.codeIn K cdv__is_head "_is_head" = true) (k__is_head : PySem.W.keepIn K (.ref f__is_head) = true)
    {f_is_format : Addr} {oc_is_format kV_is_format doc_is_format pm_is_format cdv_is_format ct_is_format : Value} {od_is_format an_is_format : Option Addr} {sl_is_format : Array (Option Value)} (a_is_format : PySem.W.nsIn K mainGlobals "is_format" = some (some (.ref f_is_format))) (l_is_format : K.lookup f_is_format = some ⟨oc_is_format, od_is_format, .func (PySem.W.fnOf "is_format" "is_format" (defArgs s_is_format) (defBody s_is_format) (defScope s_is_format) .none kV_is_format doc_is_format pm_is_format an_is_format cdv_is_format ct_is_format), sl_is_format⟩) (c_is_format : PySem.W.codeIn K cdv_is_format "is_format" = true) (k_is_format : PySem.W.keepIn K (.ref f_is_format) = true)
    {f_check_format : Addr} {oc_check_format kV_check_format doc_check_format pm_check_format cdv_check_format ct_check_format : Value} {od_check_format an_check_format : Option Addr} {sl_check_format : Array (Option Value)} (a_check_format : PySem.W.nsIn K mainGlobals "check_format" = some (some (.ref f_check_format))) (l_check_format : K.lookup f_check_format = some ⟨oc_check_format, od_check_format, .func (PySem.W.fnOf "check_format" "check_format" (defArgs s_check_format) (defBody s_check_format) (defScope s_check_format) .none kV_check_format doc_check_format pm_check_format an_check_format cdv_check_format ct_check_format), sl_check_format⟩) (c_check_format : PySem.W.codeIn K cdv_check_format "check_format" = true) (k_check_format : PySem.W.keepIn K (.ref f_check_format) = true)
    {f_check_same_base : Addr} {oc_check_same_base kV_check_same_base doc_check_same_base pm_check_same_base cdv_check_same_base ct_check_same_base : Value} {od_check_same_base an_check_same_base : Option Addr} {sl_check_same_base : Array (Option Value)} (a_check_same_base : PySem.W.nsIn K mainGlobals "check_same_base" = some (some (.ref f_check_same_base))) (l_check_same_base : K.lookup f_check_same_base = some ⟨oc_check_same_base, od_check_same_base, .func (PySem.W.fnOf "check_same_base" "check_same_base" (defArgs s_check_same_base) (defBody s_check_same_base) (defScope s_check_same_base) .none kV_check_same_base doc_check_same_base pm_check_same_base an_check_same_base cdv_check_same_base ct_check_same_base), sl_check_same_base⟩) (c_check_same_base : PySem.W.codeIn K cdv_check_same_base "check_same_base" = true) (k_check_same_base : PySem.W.keepIn K (.ref f_check_same_base) = true)
    {f_check_two_formats : Addr} {oc_check_two_formats kV_check_two_formats doc_check_two_formats pm_check_two_formats cdv_check_two_formats ct_check_two_formats : Value} {od_check_two_formats an_check_two_formats : Option Addr} {sl_check_two_formats : Array (Option Value)} (a_check_two_formats : PySem.W.nsIn K mainGlobals "check_two_formats" = some (some (.ref f_check_two_formats))) (l_check_two_formats : K.lookup f_check_two_formats = some ⟨oc_check_two_formats, od_check_two_formats, .func (PySem.W.fnOf "check_two_formats" "check_two_formats" (defArgs s_check_two_formats) (defBody s_check_two_formats) (defScope s_check_two_formats) .none kV_check_two_formats doc_check_two_formats pm_check_two_formats an_check_two_formats cdv_check_two_formats ct_check_two_formats), sl_check_two_formats⟩) (c_check_two_formats : PySem.W.codeIn K cdv_check_two_formats "check_two_formats" = true) (k_check_two_formats : PySem.W.keepIn K (.ref f_check_two_formats) = true)
    {f_behind_marks : Addr} {oc_behind_marks kV_behind_marks doc_behind_marks pm_behind_marks cdv_behind_marks ct_behind_marks : Value} {od_behind_marks an_behind_marks : Option Addr} {sl_behind_marks : Array (Option Value)} (a_behind_marks : PySem.W.nsIn K mainGlobals "behind_marks" = some (some (.ref f_behind_marks))) (l_behind_marks : K.lookup f_behind_marks = some ⟨oc_behind_marks, od_behind_marks, .func (PySem.W.fnOf "behind_marks" "behind_marks" (defArgs s_behind_marks) (defBody s_behind_marks) (defScope s_behind_marks) .none kV_behind_marks doc_behind_marks pm_behind_marks an_behind_marks cdv_behind_marks ct_behind_marks), sl_behind_marks⟩) (c_behind_marks : PySem.W.codeIn K cdv_behind_marks "behind_marks" = true) (k_behind_marks : PySem.W.keepIn K (.ref f_behind_marks) = true)
    {f_first_stand : Addr} {oc_first_stand kV_first_stand doc_first_stand pm_first_stand cdv_first_stand ct_first_stand : Value} {od_first_stand an_first_stand : Option Addr} {sl_first_stand : Array (Option Value)} (a_first_stand : PySem.W.nsIn K mainGlobals "first_stand" = some (some (.ref f_first_stand))) (l_first_stand : K.lookup f_first_stand = some ⟨oc_first_stand, od_first_stand, .func (PySem.W.fnOf "first_stand" "first_stand" (defArgs s_first_stand) (defBody s_first_stand) (defScope s_first_stand) .none kV_first_stand doc_first_stand pm_first_stand an_first_stand cdv_first_stand ct_first_stand), sl_first_stand⟩) (c_first_stand : PySem.W.codeIn K cdv_first_stand "first_stand" = true) (k_first_stand : PySem.W.keepIn K (.ref f_first_stand) = true)
    {f_are_signs : Addr} {oc_are_signs kV_are_signs doc_are_signs pm_are_signs cdv_are_signs ct_are_signs : Value} {od_are_signs an_are_signs : Option Addr} {sl_are_signs : Array (Option Value)} (a_are_signs : PySem.W.nsIn K mainGlobals "are_signs" = some (some (.ref f_are_signs))) (l_are_signs : K.lookup f_are_signs = some ⟨oc_are_signs, od_are_signs, .func (PySem.W.fnOf "are_signs" "are_signs" (defArgs s_are_signs) (defBody s_are_signs) (defScope s_are_signs) .none kV_are_signs doc_are_signs pm_are_signs an_are_signs cdv_are_signs ct_are_signs), sl_are_signs⟩) (c_are_signs : PySem.W.codeIn K cdv_are_signs "are_signs" = true) (k_are_signs : PySem.W.keepIn K (.ref f_are_signs) = true)
    {f_is_file : Addr} {oc_is_file kV_is_file doc_is_file pm_is_file cdv_is_file ct_is_file : Value} {od_is_file an_is_file : Option Addr} {sl_is_file : Array (Option Value)} (a_is_file : PySem.W.nsIn K mainGlobals "is_file" = some (some (.ref f_is_file))) (l_is_file : K.lookup f_is_file = some ⟨oc_is_file, od_is_file, .func (PySem.W.fnOf "is_file" "is_file" (defArgs s_is_file) (defBody s_is_file) (defScope s_is_file) .none kV_is_file doc_is_file pm_is_file an_is_file cdv_is_file ct_is_file), sl_is_file⟩) (c_is_file : PySem.W.codeIn K cdv_is_file "is_file" = true) (k_is_file : PySem.W.keepIn K (.ref f_is_file) = true)
    {f_law : Addr} {oc_law kV_law doc_law pm_law cdv_law ct_law : Value} {od_law an_law : Option Addr} {sl_law : Array (Option Value)} (a_law : PySem.W.nsIn K mainGlobals "law" = some (some (.ref f_law))) (l_law : K.lookup f_law = some ⟨oc_law, od_law, .func (PySem.W.fnOf "law" "law" (defArgs s_law) (defBody s_law) (defScope s_law) .none kV_law doc_law pm_law an_law cdv_law ct_law), sl_law⟩) (c_law : PySem.W.codeIn K cdv_law "law" = true) (k_law : PySem.W.keepIn K (.ref f_law) = true) :
    ∃ fd : FuncData, (∀ (s : Shared) (v : Value), BindsTo s fd ⟨[v], []⟩ [("script", v)]) ∧ ∀ base : Heap, K.In base → base.Ns mainGlobals mg → FnOk P w K mg base CX0 12 fa fd ["script"] (spL01 K) := by
  have d__law_grab : DefF K mg "_law_grab" s__law_grab ["bag", "below"] := DefF.mk' X G a__law_grab l__law_grab c__law_grab k__law_grab (fun us hl => match us, hl with | [_, _], _ => rfl) (fun us hl => match us, hl with | [_, _], _ => rfl)
  have d__law_drawn_tags : DefF K mg "_law_drawn_tags" s__law_drawn_tags ["bag", "base", "many_here"] := DefF.mk' X G a__law_drawn_tags l__law_drawn_tags c__law_drawn_tags k__law_drawn_tags (fun us hl => match us, hl with | [_, _, _], _ => rfl) (fun us hl => match us, hl with | [_, _, _], _ => rfl)
  have d__law_drawn_form : DefF K mg "_law_drawn_form" s__law_drawn_form ["bag", "base", "marks_here", "most_here", "many_here"] := DefF.mk' X G a__law_drawn_form l__law_drawn_form c__law_drawn_form k__law_drawn_form (fun us hl => match us, hl with | [_, _, _, _, _], _ => rfl) (fun us hl => match us, hl with | [_, _, _, _, _], _ => rfl)
  have d__law_any_form : DefF K mg "_law_any_form" s__law_any_form ["bag", "base", "great"] := DefF.mk' X G a__law_any_form l__law_any_form c__law_any_form k__law_any_form (fun us hl => match us, hl with | [_, _, _], _ => rfl) (fun us hl => match us, hl with | [_, _, _], _ => rfl)
  have d__law_bag : DefF K mg "_law_bag" s__law_bag ["script", "at"] := DefF.mk' X G a__law_bag l__law_bag c__law_bag k__law_bag (fun us hl => match us, hl with | [_, _], _ => rfl) (fun us hl => match us, hl with | [_, _], _ => rfl)
  have d__law_bent_file : DefF K mg "_law_bent_file" s__law_bent_file ["bag", "base", "signs_here"] := DefF.mk' X G a__law_bent_file l__law_bent_file c__law_bent_file k__law_bent_file (fun us hl => match us, hl with | [_, _, _], _ => rfl) (fun us hl => match us, hl with | [_, _, _], _ => rfl)
  have d__law_bent_form : DefF K mg "_law_bent_form" s__law_bent_form ["bag", "form_here"] := DefF.mk' X G a__law_bent_form l__law_bent_form c__law_bent_form k__law_bent_form (fun us hl => match us, hl with | [_, _], _ => rfl) (fun us hl => match us, hl with | [_, _], _ => rfl)
  have d__law_equal : DefF K mg "_law_equal" s__law_equal ["found", "due"] := DefF.mk' X G a__law_equal l__law_equal c__law_equal k__law_equal (fun us hl => match us, hl with | [_, _], _ => rfl) (fun us hl => match us, hl with | [_, _], _ => rfl)
  have d__law_is_sign : DefF K mg "_law_is_sign" s__law_is_sign ["base", "thing"] := DefF.mk' X G a__law_is_sign l__law_is_sign c__law_is_sign k__law_is_sign (fun us hl => match us, hl with | [_, _], _ => rfl) (fun us hl => match us, hl with | [_, _], _ => rfl)
  have d__law_is_form : DefF K mg "_law_is_form" s__law_is_form ["thing"] := DefF.mk' X G a__law_is_form l__law_is_form c__law_is_form k__law_is_form (fun us hl => match us, hl with | [_], _ => rfl) (fun us hl => match us, hl with | [_], _ => rfl)
  have d__law_is_signs : DefF K mg "_law_is_signs" s__law_is_signs ["base", "thing"] := DefF.mk' X G a__law_is_signs l__law_is_signs c__law_is_signs k__law_is_signs (fun us hl => match us, hl with | [_, _], _ => rfl) (fun us hl => match us, hl with | [_, _], _ => rfl)
  have d__is_word : DefF K mg "_is_word" s__is_word ["value", "words"] := DefF.mk' X G a__is_word l__is_word c__is_word k__is_word (fun us hl => match us, hl with | [_, _], _ => rfl) (fun us hl => match us, hl with | [_, _], _ => rfl)
  have d_is_integer : DefF K mg "is_integer" s_is_integer ["value"] := DefF.mk' X G a_is_integer l_is_integer c_is_integer k_is_integer (fun us hl => match us, hl with | [_], _ => rfl) (fun us hl => match us, hl with | [_], _ => rfl)
  have d_is_sign : DefF K mg "is_sign" s_is_sign ["value", "base"] := DefF.mk' X G a_is_sign l_is_sign c_is_sign k_is_sign (fun us hl => match us, hl with | [_, _], _ => rfl) (fun us hl => match us, hl with | [_, _], _ => rfl)
  have d__is_tag : DefF K mg "_is_tag" s__is_tag ["value", "base"] := DefF.mk' X G a__is_tag l__is_tag c__is_tag k__is_tag (fun us hl => match us, hl with | [_, _], _ => rfl) (fun us hl => match us, hl with | [_, _], _ => rfl)
  have d__are_tags : DefF K mg "_are_tags" s__are_tags ["value", "base"] := DefF.mk' X G a__are_tags l__are_tags c__are_tags k__are_tags (fun us hl => match us, hl with | [_, _], _ => rfl) (fun us hl => match us, hl with | [_, _], _ => rfl)
  have d__is_head : DefF K mg "_is_head" s__is_head ["value", "base"] := DefF.mk' X G a__is_head l__is_head c__is_head k__is_head (fun us hl => match us, hl with | [_, _], _ => rfl) (fun us hl => match us, hl with | [_, _], _ => rfl)
  have d_is_format : DefF K mg "is_format" s_is_format ["value"] := DefF.mk' X G a_is_format l_is_format c_is_format k_is_format (fun us hl => match us, hl with | [_], _ => rfl) (fun us hl => match us, hl with | [_], _ => rfl)
  have d_check_format : DefF K mg "check_format" s_check_format ["form"] := DefF.mk' X G a_check_format l_check_format c_check_format k_check_format (fun us hl => match us, hl with | [_], _ => rfl) (fun us hl => match us, hl with | [_], _ => rfl)
  have d_check_same_base : DefF K mg "check_same_base" s_check_same_base ["one", "other"] := DefF.mk' X G a_check_same_base l_check_same_base c_check_same_base k_check_same_base (fun us hl => match us, hl with | [_, _], _ => rfl) (fun us hl => match us, hl with | [_, _], _ => rfl)
  have d_check_two_formats : DefF K mg "check_two_formats" s_check_two_formats ["one", "other"] := DefF.mk' X G a_check_two_formats l_check_two_formats c_check_two_formats k_check_two_formats (fun us hl => match us, hl with | [_, _], _ => rfl) (fun us hl => match us, hl with | [_, _], _ => rfl)
  have d_behind_marks : DefF K mg "behind_marks" s_behind_marks ["form", "count"] := DefF.mk' X G a_behind_marks l_behind_marks c_behind_marks k_behind_marks (fun us hl => match us, hl with | [_, _], _ => rfl) (fun us hl => match us, hl with | [_, _], _ => rfl)
  have d_first_stand : DefF K mg "first_stand" s_first_stand ["form"] := DefF.mk' X G a_first_stand l_first_stand c_first_stand k_first_stand (fun us hl => match us, hl with | [_], _ => rfl) (fun us hl => match us, hl with | [_], _ => rfl)
  have d_are_signs : DefF K mg "are_signs" s_are_signs ["value", "base"] := DefF.mk' X G a_are_signs l_are_signs c_are_signs k_are_signs (fun us hl => match us, hl with | [_, _], _ => rfl) (fun us hl => match us, hl with | [_, _], _ => rfl)
  have d_is_file : DefF K mg "is_file" s_is_file ["form", "value"] := DefF.mk' X G a_is_file l_is_file c_is_file k_is_file (fun us hl => match us, hl with | [_, _], _ => rfl) (fun us hl => match us, hl with | [_, _], _ => rfl)
  have d_law : DefF K mg "law" s_law ["script"] := DefF.mk' X G a_law l_law c_law k_law (fun us hl => match us, hl with | [_], _ => rfl) (fun us hl => match us, hl with | [_], _ => rfl)
  have FI_R := fun_mk (st := s_rinit) l_RI c_RI k_RI
  have FI_P := fun_mk (st := s_pinit) l_PI c_PI k_PI
  have RF : RkF K mg C_R C_P fI_R fI_P _ _ := ⟨⟨mk_R, in_R, fi_R, kc_R⟩, ⟨⟨pg_R, hd_R, po_R, sa_R⟩, fc_R, sp_0, tk_0, mr_R, fun n hn => by simp only [kinds0, List.mem_cons, List.not_mem_nil, or_false] at hn; rcases hn with rfl | rfl | rfl | rfl | rfl | rfl; exact kdint_R; exact kdbool_R; exact kdstr_R; exact kdlist_R; exact kdtuple_R; exact kddict_R⟩, ⟨⟨pg_R, hd_R, po_R, sa_R⟩, nform_R, nsigns_R, nalong_R⟩, FI_R, PySem.W.mg_of X G aC_R, FI_R.binds (ps := ["self", "form"]) fun _ _ _ _ _ _ us hl => match us, hl with | [_, _], _ => rfl,
    ⟨mk_P, in_P, fi_P, kc_P⟩, ⟨⟨pg_P, hd_P, po_P, sa_P⟩, fc_P, sp_0, tk_0, mr_P, fun n hn => by simp only [kinds0, List.mem_cons, List.not_mem_nil, or_false] at hn; rcases hn with rfl | rfl | rfl | rfl | rfl | rfl; exact kdint_P; exact kdbool_P; exact kdstr_P; exact kdlist_P; exact kdtuple_P; exact kddict_P⟩, ⟨⟨pg_P, hd_P, po_P, sa_P⟩, none_P, nother_P⟩, FI_P, PySem.W.mg_of X G aC_P, FI_P.binds (ps := ["self", "one", "other"]) fun _ _ _ _ _ _ us hl => match us, hl with | [_, _, _], _ => rfl⟩
  obtain ⟨f, fd, hm, kp, F, b, kr, bb⟩ := d_law.ex
  have ef := hm.symm.trans hfa
  cases ef
  exact ⟨fd, fun s u => .of_eq (bb [u] rfl), fun base _ _ => all_ok (base := base) ⟨PySem.W.mg_none_of X G z_abs, PySem.W.mg_none_of X G z_all, PySem.W.mg_none_of X G z_bool, PySem.W.mg_none_of X G z_int, PySem.W.mg_none_of X G z_isinstance, PySem.W.mg_none_of X G z_len, PySem.W.mg_none_of X G z_list, PySem.W.mg_none_of X G z_max, PySem.W.mg_none_of X G z_min, PySem.W.mg_none_of X G z_range, PySem.W.mg_none_of X G z_str, PySem.W.mg_none_of X G z_tuple, glo_int X G a_BASE, glo_int X G a_HEAD, glo_tup X G a_TAG l_TAG r_TAG (by decide) y_TAG, glo_tup X G a_USES l_USES r_USES (by decide) y_USES, glo_tup X G a_WIDTHS l_WIDTHS r_WIDTHS (by decide) y_WIDTHS⟩ RF d__law_grab d__law_drawn_tags d__law_drawn_form d__law_any_form d__law_bag d__law_bent_file d__law_bent_form d__law_equal d__law_is_sign d__law_is_form d__law_is_signs d__is_word d_is_integer d_is_sign d__is_tag d__are_tags d__is_head d_is_format d_check_format d_check_same_base d_check_two_formats d_behind_marks d_first_stand d_are_signs d_is_file F⟩
end

end Dv.K01

set_option Elab.async false
set_option linter.all false
set_option maxRecDepth 100000
set_option maxHeartbeats 0
open PySem PySem.W PySem.Calls PyProof.Rows
theorem PySem.Challenge.cw_bothreaders_k01_formats_and_files_judged_holds : PySem.Challenge.rw_bothreaders_k01_formats_and_files_judged.Holds := by
  w_on; o_law
  refine HandSHeadRun.head_any (r := OpenLaw.row PySem.Challenge.rw_bothreaders_k01_formats_and_files_judged) (q := view (OpenLaw.row PySem.Challenge.rw_bothreaders_k01_formats_and_files_judged).prog [119]) (H := HdK01.hk) (ob := HdK01.ob) (M := 30000) (loose := HdK01.names) (d := HandSHeadRun.topDef (OpenLaw.row PySem.Challenge.rw_bothreaders_k01_formats_and_files_judged).prog 119) (kwd := []) HdK01.ob_eq
    (by kernel_rfl) (fun s => by kernel_rfl) HdK01.run (by kernel_rfl) (by kernel_rfl) (by kernel_rfl) (by rfl) (by first | assumption | decide +kernel) (by decide +kernel) ⟨rfl, rfl, rfl, rfl, rfl, by decide +kernel⟩ ?hw ?hc
  case hw => w_witness2
  case hc =>
    refine L2.walk_ofE (l := PySem.Challenge.rw_bothreaders_k01_formats_and_files_judged) (n := 63) (k := 12) (x := "script") (CX := L2.CX0) rfl (by decide) (by kernel_rfl) ⟨rfl, by decide, by decide⟩ ?F (fun _ _ _ _ z => z)
    intro w mg fa h Y G hmg0
    obtain ⟨K, KX, ct, cm⟩ := Y
    have hmg : mg ("law" : PySem.Str) = some (.ref fa) := by
      have e : (HandSHeadRun.topDef (OpenLaw.row PySem.Challenge.rw_bothreaders_k01_formats_and_files_judged).prog 119).name = ("law" : PySem.Str) := by kernel_rfl
      rw [← e]
      exact hmg0
    simp only [HdK01.exs, Bool.and_eq_true] at cm
    obtain ⟨⟨⟨⟨⟨cm0, cm1⟩, cm2⟩, cm3⟩, cm4⟩, cm5⟩ := cm
    have b0 := Hd.getB cm0 0 rfl
    have b1 := Hd.getB cm0 1 rfl
    have b2 := Hd.getB cm0 2 rfl
    have b3 := Hd.getB cm0 3 rfl
    have b4 := Hd.getB cm0 4 rfl
    have b5 := Hd.getB cm0 5 rfl
    have b6 := Hd.getB cm0 6 rfl
    have b7 := Hd.getB cm0 7 rfl
    have b8 := Hd.getB cm0 8 rfl
    have b9 := Hd.getB cm0 9 rfl
    have b10 := Hd.getB cm0 10 rfl
    have b11 := Hd.getB cm0 11 rfl
    have b12 := Hd.getB cm0 12 rfl
    have b13 := Hd.getB cm0 13 rfl
    have b14 := Hd.getB cm0 14 rfl
    have b15 := Hd.getB cm1 0 rfl
    have b16 := Hd.getB cm1 1 rfl
    have b17 := Hd.getB cm1 2 rfl
    have b18 := Hd.getB cm1 3 rfl
    have b19 := Hd.getB cm1 4 rfl
    have b20 := Hd.getB cm1 5 rfl
    have b21 := Hd.getB cm1 6 rfl
    have b22 := Hd.getB cm1 7 rfl
    have b23 := Hd.getB cm1 8 rfl
    have b24 := Hd.getB cm1 9 rfl
    have b25 := Hd.getB cm1 10 rfl
    have b26 := Hd.getB cm1 11 rfl
    have b27 := Hd.getB cm1 12 rfl
    have b28 := Hd.getB cm1 13 rfl
    have b29 := Hd.getB cm1 14 rfl
    have b30 := Hd.getB cm2 0 rfl
    have b31 := Hd.getB cm2 1 rfl
    have b32 := Hd.getB cm2 2 rfl
    have b33 := Hd.getB cm2 3 rfl
    have b34 := Hd.getB cm2 4 rfl
    have b35 := Hd.getB cm2 5 rfl
    have b36 := Hd.getB cm2 6 rfl
    have b37 := Hd.getB cm2 7 rfl
    have b38 := Hd.getB cm2 8 rfl
    have b39 := Hd.getB cm2 9 rfl
    have b40 := Hd.getB cm2 10 rfl
    have b41 := Hd.getB cm2 11 rfl
    have b42 := Hd.getB cm2 12 rfl
    have b43 := Hd.getB cm2 13 rfl
    have b44 := Hd.getB cm2 14 rfl
    have b45 := Hd.getB cm3 0 rfl
    have b46 := Hd.getB cm3 1 rfl
    have b47 := Hd.getB cm3 2 rfl
    have b48 := Hd.getB cm3 3 rfl
    have b49 := Hd.getB cm3 4 rfl
    have b50 := Hd.getB cm3 5 rfl
    have b51 := Hd.getB cm3 6 rfl
    have b52 := Hd.getB cm3 7 rfl
    have b53 := Hd.getB cm3 8 rfl
    have b54 := Hd.getB cm3 9 rfl
    have b55 := Hd.getB cm3 10 rfl
    have b56 := Hd.getB cm3 11 rfl
    have b57 := Hd.getB cm3 12 rfl
    have b58 := Hd.getB cm3 13 rfl
    have b59 := Hd.getB cm3 14 rfl
    have b60 := Hd.getB cm4 0 rfl
    have b61 := Hd.getB cm4 1 rfl
    have b62 := Hd.getB cm4 2 rfl
    have b63 := Hd.getB cm4 3 rfl
    have b64 := Hd.getB cm4 4 rfl
    have b65 := Hd.getB cm4 5 rfl
    have b66 := Hd.getB cm4 6 rfl
    have b67 := Hd.getB cm4 7 rfl
    have b68 := Hd.getB cm4 8 rfl
    have b69 := Hd.getB cm4 9 rfl
    have b70 := Hd.getB cm4 10 rfl
    have b71 := Hd.getB cm4 11 rfl
    have b72 := Hd.getB cm4 12 rfl
    have b73 := Hd.getB cm4 13 rfl
    have b74 := Hd.getB cm4 14 rfl
    have b75 := Hd.getB cm5 0 rfl
    have b76 := Hd.getB cm5 1 rfl
    have b77 := Hd.getB cm5 2 rfl
    have b78 := Hd.getB cm5 3 rfl
    have b79 := Hd.getB cm5 4 rfl
    have b80 := Hd.getB cm5 5 rfl
    have b81 := Hd.getB cm5 6 rfl
    have b82 := Hd.getB cm5 7 rfl
    have b83 := Hd.getB cm5 8 rfl
    have b84 := Hd.getB cm5 9 rfl
    have b85 := Hd.getB cm5 10 rfl
    have b86 := Hd.getB cm5 11 rfl
    obtain ⟨fd_Reader___init__, F_Reader___init__⟩ := ct.d.def_ 0 (d := HdK01.dd_Reader___init__) rfl
    obtain ⟨_, _, _, _, _, _, _, _, _, l_Reader___init__, c_Reader___init__, k_Reader___init__⟩ := Hd.funL F_Reader___init__
    obtain ⟨fd_Pair___init__, F_Pair___init__⟩ := ct.d.def_ 1 (d := HdK01.dd_Pair___init__) rfl
    obtain ⟨_, _, _, _, _, _, _, _, _, l_Pair___init__, c_Pair___init__, k_Pair___init__⟩ := Hd.funL F_Pair___init__
    obtain ⟨_, _, _, _, tl_TAG, tr_TAG, ty_TAG⟩ := Hd.tuL (b56)
    obtain ⟨_, _, _, _, tl_USES, tr_USES, ty_USES⟩ := Hd.tuL (b58)
    obtain ⟨_, _, _, _, tl_WIDTHS, tr_WIDTHS, ty_WIDTHS⟩ := Hd.tuL (b60)
    obtain ⟨fd__law_grab, F__law_grab⟩ := ct.d.def_ 2 (d := HdK01.dd__law_grab) rfl
    obtain ⟨_, _, _, _, _, _, _, _, _, l__law_grab, c__law_grab, k__law_grab⟩ := Hd.funL F__law_grab
    obtain ⟨fd__law_drawn_tags, F__law_drawn_tags⟩ := ct.d.def_ 3 (d := HdK01.dd__law_drawn_tags) rfl
    obtain ⟨_, _, _, _, _, _, _, _, _, l__law_drawn_tags, c__law_drawn_tags, k__law_drawn_tags⟩ := Hd.funL F__law_drawn_tags
    obtain ⟨fd__law_drawn_form, F__law_drawn_form⟩ := ct.d.def_ 4 (d := HdK01.dd__law_drawn_form) rfl
    obtain ⟨_, _, _, _, _, _, _, _, _, l__law_drawn_form, c__law_drawn_form, k__law_drawn_form⟩ := Hd.funL F__law_drawn_form
    obtain ⟨fd__law_any_form, F__law_any_form⟩ := ct.d.def_ 5 (d := HdK01.dd__law_any_form) rfl
    obtain ⟨_, _, _, _, _, _, _, _, _, l__law_any_form, c__law_any_form, k__law_any_form⟩ := Hd.funL F__law_any_form
    obtain ⟨fd__law_bag, F__law_bag⟩ := ct.d.def_ 6 (d := HdK01.dd__law_bag) rfl
    obtain ⟨_, _, _, _, _, _, _, _, _, l__law_bag, c__law_bag, k__law_bag⟩ := Hd.funL F__law_bag
    obtain ⟨fd__law_bent_file, F__law_bent_file⟩ := ct.d.def_ 7 (d := HdK01.dd__law_bent_file) rfl
    obtain ⟨_, _, _, _, _, _, _, _, _, l__law_bent_file, c__law_bent_file, k__law_bent_file⟩ := Hd.funL F__law_bent_file
    obtain ⟨fd__law_bent_form, F__law_bent_form⟩ := ct.d.def_ 8 (d := HdK01.dd__law_bent_form) rfl
    obtain ⟨_, _, _, _, _, _, _, _, _, l__law_bent_form, c__law_bent_form, k__law_bent_form⟩ := Hd.funL F__law_bent_form
    obtain ⟨fd__law_equal, F__law_equal⟩ := ct.d.def_ 9 (d := HdK01.dd__law_equal) rfl
    obtain ⟨_, _, _, _, _, _, _, _, _, l__law_equal, c__law_equal, k__law_equal⟩ := Hd.funL F__law_equal
    obtain ⟨fd__law_is_sign, F__law_is_sign⟩ := ct.d.def_ 10 (d := HdK01.dd__law_is_sign) rfl
    obtain ⟨_, _, _, _, _, _, _, _, _, l__law_is_sign, c__law_is_sign, k__law_is_sign⟩ := Hd.funL F__law_is_sign
    obtain ⟨fd__law_is_form, F__law_is_form⟩ := ct.d.def_ 11 (d := HdK01.dd__law_is_form) rfl
    obtain ⟨_, _, _, _, _, _, _, _, _, l__law_is_form, c__law_is_form, k__law_is_form⟩ := Hd.funL F__law_is_form
    obtain ⟨fd__law_is_signs, F__law_is_signs⟩ := ct.d.def_ 12 (d := HdK01.dd__law_is_signs) rfl
    obtain ⟨_, _, _, _, _, _, _, _, _, l__law_is_signs, c__law_is_signs, k__law_is_signs⟩ := Hd.funL F__law_is_signs
    obtain ⟨fd__is_word, F__is_word⟩ := ct.d.def_ 13 (d := HdK01.dd__is_word) rfl
    obtain ⟨_, _, _, _, _, _, _, _, _, l__is_word, c__is_word, k__is_word⟩ := Hd.funL F__is_word
    obtain ⟨fd_is_integer, F_is_integer⟩ := ct.d.def_ 14 (d := HdK01.dd_is_integer) rfl
    obtain ⟨_, _, _, _, _, _, _, _, _, l_is_integer, c_is_integer, k_is_integer⟩ := Hd.funL F_is_integer
    obtain ⟨fd_is_sign, F_is_sign⟩ := ct.d.def_ 15 (d := HdK01.dd_is_sign) rfl
    obtain ⟨_, _, _, _, _, _, _, _, _, l_is_sign, c_is_sign, k_is_sign⟩ := Hd.funL F_is_sign
    obtain ⟨fd__is_tag, F__is_tag⟩ := ct.d.def_ 16 (d := HdK01.dd__is_tag) rfl
    obtain ⟨_, _, _, _, _, _, _, _, _, l__is_tag, c__is_tag, k__is_tag⟩ := Hd.funL F__is_tag
    obtain ⟨fd__are_tags, F__are_tags⟩ := ct.d.def_ 17 (d := HdK01.dd__are_tags) rfl
    obtain ⟨_, _, _, _, _, _, _, _, _, l__are_tags, c__are_tags, k__are_tags⟩ := Hd.funL F__are_tags
    obtain ⟨fd__is_head, F__is_head⟩ := ct.d.def_ 18 (d := HdK01.dd__is_head) rfl
    obtain ⟨_, _, _, _, _, _, _, _, _, l__is_head, c__is_head, k__is_head⟩ := Hd.funL F__is_head
    obtain ⟨fd_is_format, F_is_format⟩ := ct.d.def_ 19 (d := HdK01.dd_is_format) rfl
    obtain ⟨_, _, _, _, _, _, _, _, _, l_is_format, c_is_format, k_is_format⟩ := Hd.funL F_is_format
    obtain ⟨fd_check_format, F_check_format⟩ := ct.d.def_ 20 (d := HdK01.dd_check_format) rfl
    obtain ⟨_, _, _, _, _, _, _, _, _, l_check_format, c_check_format, k_check_format⟩ := Hd.funL F_check_format
    obtain ⟨fd_check_same_base, F_check_same_base⟩ := ct.d.def_ 21 (d := HdK01.dd_check_same_base) rfl
    obtain ⟨_, _, _, _, _, _, _, _, _, l_check_same_base, c_check_same_base, k_check_same_base⟩ := Hd.funL F_check_same_base
    obtain ⟨fd_check_two_formats, F_check_two_formats⟩ := ct.d.def_ 22 (d := HdK01.dd_check_two_formats) rfl
    obtain ⟨_, _, _, _, _, _, _, _, _, l_check_two_formats, c_check_two_formats, k_check_two_formats⟩ := Hd.funL F_check_two_formats
    obtain ⟨fd_behind_marks, F_behind_marks⟩ := ct.d.def_ 23 (d := HdK01.dd_behind_marks) rfl
    obtain ⟨_, _, _, _, _, _, _, _, _, l_behind_marks, c_behind_marks, k_behind_marks⟩ := Hd.funL F_behind_marks
    obtain ⟨fd_first_stand, F_first_stand⟩ := ct.d.def_ 24 (d := HdK01.dd_first_stand) rfl
    obtain ⟨_, _, _, _, _, _, _, _, _, l_first_stand, c_first_stand, k_first_stand⟩ := Hd.funL F_first_stand
    obtain ⟨fd_are_signs, F_are_signs⟩ := ct.d.def_ 25 (d := HdK01.dd_are_signs) rfl
    obtain ⟨_, _, _, _, _, _, _, _, _, l_are_signs, c_are_signs, k_are_signs⟩ := Hd.funL F_are_signs
    obtain ⟨fd_is_file, F_is_file⟩ := ct.d.def_ 26 (d := HdK01.dd_is_file) rfl
    obtain ⟨_, _, _, _, _, _, _, _, _, l_is_file, c_is_file, k_is_file⟩ := Hd.funL F_is_file
    obtain ⟨fd_law, F_law⟩ := ct.d.def_ 27 (d := HdK01.dd_law) rfl
    obtain ⟨_, _, _, _, _, _, _, _, _, l_law, c_law, k_law⟩ := Hd.funL F_law
    have fin := Dv.K01.fin (P := (PySem.Challenge.rw_bothreaders_k01_formats_and_files_judged).prog) (w := w) KX G hmg (He.eqO_ok (b0)) (b1) (He.eqO_ok (b2)) (b3) (b4) (b5) (b6) (b7) (He.eqO_ok (b8)) (He.eqO_ok (b9)) (He.eqO_ok (b10)) (He.eqO_ok (b11)) (He.eqO_ok (b12)) (of_decide_eq_true (b13)) (of_decide_eq_true (b14)) (of_decide_eq_true (b15)) (of_decide_eq_true (b16)) (of_decide_eq_true (b17)) (of_decide_eq_true (b18)) (of_decide_eq_true (b19)) (He.eqO_ok (b20)) (b21) (He.eqO_ok (b22)) (b23) (b24) (b25) (b26) (b27) (He.eqO_ok (b28)) (He.eqO_ok (b29)) (He.eqO_ok (b30)) (He.eqO_ok (b31)) (of_decide_eq_true (b32)) (of_decide_eq_true (b33)) (of_decide_eq_true (b34)) (of_decide_eq_true (b35)) (of_decide_eq_true (b36)) (of_decide_eq_true (b37)) (of_decide_eq_true (b38)) (He.eqO_ok (b39)) (of_decide_eq_true (b40)) (l_Reader___init__) (c_Reader___init__) (k_Reader___init__) (l_Pair___init__) (c_Pair___init__) (k_Pair___init__) (He.eqO_ok (b41)) (He.eqO_ok (b42)) (He.eqO_ok (b43)) (He.eqO_ok (b44)) (He.eqO_ok (b45)) (He.eqO_ok (b46)) (He.eqO_ok (b47)) (He.eqO_ok (b48)) (He.eqO_ok (b49)) (He.eqO_ok (b50)) (He.eqO_ok (b51)) (He.eqO_ok (b52)) (He.eqO_ok (b53)) (He.eqO_ok (b54)) (He.eqO_ok (b55)) (tl_TAG) (tr_TAG) (ty_TAG) (He.eqO_ok (b57)) (tl_USES) (tr_USES) (ty_USES) (He.eqO_ok (b59)) (tl_WIDTHS) (tr_WIDTHS) (ty_WIDTHS) (He.eqO_ok (b61)) (l__law_grab) (c__law_grab) (k__law_grab) (He.eqO_ok (b62)) (l__law_drawn_tags) (c__law_drawn_tags) (k__law_drawn_tags) (He.eqO_ok (b63)) (l__law_drawn_form) (c__law_drawn_form) (k__law_drawn_form) (He.eqO_ok (b64)) (l__law_any_form) (c__law_any_form) (k__law_any_form) (He.eqO_ok (b65)) (l__law_bag) (c__law_bag) (k__law_bag) (He.eqO_ok (b66)) (l__law_bent_file) (c__law_bent_file) (k__law_bent_file) (He.eqO_ok (b67)) (l__law_bent_form) (c__law_bent_form) (k__law_bent_form) (He.eqO_ok (b68)) (l__law_equal) (c__law_equal) (k__law_equal) (He.eqO_ok (b69)) (l__law_is_sign) (c__law_is_sign) (k__law_is_sign) (He.eqO_ok (b70)) (l__law_is_form) (c__law_is_form) (k__law_is_form) (He.eqO_ok (b71)) (l__law_is_signs) (c__law_is_signs) (k__law_is_signs) (He.eqO_ok (b72)) (l__is_word) (c__is_word) (k__is_word) (He.eqO_ok (b73)) (l_is_integer) (c_is_integer) (k_is_integer) (He.eqO_ok (b74)) (l_is_sign) (c_is_sign) (k_is_sign) (He.eqO_ok (b75)) (l__is_tag) (c__is_tag) (k__is_tag) (He.eqO_ok (b76)) (l__are_tags) (c__are_tags) (k__are_tags) (He.eqO_ok (b77)) (l__is_head) (c__is_head) (k__is_head) (He.eqO_ok (b78)) (l_is_format) (c_is_format) (k_is_format) (He.eqO_ok (b79)) (l_check_format) (c_check_format) (k_check_format) (He.eqO_ok (b80)) (l_check_same_base) (c_check_same_base) (k_check_same_base) (He.eqO_ok (b81)) (l_check_two_formats) (c_check_two_formats) (k_check_two_formats) (He.eqO_ok (b82)) (l_behind_marks) (c_behind_marks) (k_behind_marks) (He.eqO_ok (b83)) (l_first_stand) (c_first_stand) (k_first_stand) (He.eqO_ok (b84)) (l_are_signs) (c_are_signs) (k_are_signs) (He.eqO_ok (b85)) (l_is_file) (c_is_file) (k_is_file) (He.eqO_ok (b86)) (l_law) (c_law) (k_law)
    obtain ⟨fd, hb, hF⟩ := fin
    exact ⟨K, fd, Dv.K01.spL01 K, KX, hb, fun H a ns hl hO hS C1 C2 => Dv.law_sp hO hS (Dv.K01_true C1 C2 ns hl), hF⟩
