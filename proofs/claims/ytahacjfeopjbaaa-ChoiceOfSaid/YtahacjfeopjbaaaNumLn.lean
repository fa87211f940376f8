/-
  Several texts in one, each with its own first words: LnOwn, LnLib, LnWalkA, LnWalkB, LnWalkC, LnRefS, LnRefW, NumWalkA, NumWalkB, NumWalkC, NumRefA, NumRefB.
  Conditions: as each says.
-/
import Derived.Test.YtahacjfeopjbaaaProg
import Derived.Test.YtahacjfeopjbaaaLow
import Derived.Laws.IdiomStrings
import Derived.Laws.BytesArg
import Derived.Lib.Slices
import Derived.Lib.Walk
import Derived.Lib.Bytealg
/-
  What line.ownText answers: the text itself, in memory of its own; what was in memory stays as it was.
  Conditions: none.
  (This program has not all of these functions: own_at is left out here.)
-/
set_option maxRecDepth 4000
namespace Go.Proofs.Ytahacjfeopjbaaa
open Go.RowKit

end Go.Proofs.Ytahacjfeopjbaaa
/-
  What the library's functions that package line calls answer, at the one byte 10 as the second text: HasSuffix, Count, Index, Contains, Cut; nothing in memory turns.
  Conditions: a string's length is at most the model's greatest.
  (This program has not all of these functions: count_run, index_run, hasSuffix_nl, count_nl, indexByte_at, liteIndex_at, index_call, contains_nl, liteCut_at, cut_call are left out here.)
-/
set_option maxRecDepth 4000
namespace Go.Proofs.Ytahacjfeopjbaaa
open Go.RowKit

end Go.Proofs.Ytahacjfeopjbaaa
/-
  What line.Split answers, for every text that a string may hold: Ln.splitR; what was in memory stays as it was.
  Conditions: a string's length is at most the model's greatest.
  (This program has not all of these functions: split_at is left out here.)
-/
set_option maxRecDepth 4000
namespace Go.Proofs.Ytahacjfeopjbaaa
open Go.RowKit

end Go.Proofs.Ytahacjfeopjbaaa
/-
  What line.Join answers, for every row of texts: Ln.joinR; what was in memory stays as it was.
  Conditions: all texts together are of at most 2^46 bytes.
  (This program has not all of these functions: join_at is left out here.)
-/
set_option maxRecDepth 4000
namespace Go.Proofs.Ytahacjfeopjbaaa
open Go.RowKit

end Go.Proofs.Ytahacjfeopjbaaa
/-
  What line.isOfWord and line.Words answer, for every text that a string may hold: Ln.sign and Ln.wordsR; what was in memory stays as it was.
  Conditions: a string's length is at most the model's greatest.
  (This program has not all of these functions: ofWord_at, words_at are left out here.)
-/
set_option maxRecDepth 4000
namespace Go.Proofs.Ytahacjfeopjbaaa
open Go.RowKit

end Go.Proofs.Ytahacjfeopjbaaa
/-
  What the reference's Split of layer 2 answers: Ln.splitR; what was in memory stays as it was.
  Conditions: a text that is split has at most 2^32 bytes.
  (This program has not all of these functions: rSplit_at is left out here.)
-/
set_option maxRecDepth 4000
namespace Go.Proofs.Ytahacjfeopjbaaa
open Go.RowKit

end Go.Proofs.Ytahacjfeopjbaaa
/-
  What the reference's sign and Words of layer 2 answer: Ln.sign and Ln.wordsR; what was in memory stays as it was.
  Conditions: a line has at most 2^32 bytes.
  (This program has not all of these functions: rsign_at, rWords_at are left out here.)
-/
set_option maxRecDepth 4000
namespace Go.Proofs.Ytahacjfeopjbaaa
open Go.RowKit

end Go.Proofs.Ytahacjfeopjbaaa
/-
  What num.leadingDigits and num.value answer, for every text that a string may hold: the digits ahead, and their value, or that it is above 2147483647.
  Conditions: a string's length is at most the model's greatest.
  (This program has not all of these functions: lead_at, value_at are left out here.)
-/
set_option maxRecDepth 4000
namespace Go.Proofs.Ytahacjfeopjbaaa
open Go.RowKit


end Go.Proofs.Ytahacjfeopjbaaa
/-
  What num.Take and num.Whole answer, for every text that a string may hold and every place: Nm.takeR and Nm.wholeR; nothing in memory turns.
  Conditions: a string's length is at most the model's greatest.
  (This program has not all of these functions: take_at, whole_at are left out here.)
-/
set_option maxRecDepth 4000
namespace Go.Proofs.Ytahacjfeopjbaaa
open Go.RowKit

end Go.Proofs.Ytahacjfeopjbaaa
/-
  What num.Show answers, for every int: Nm.showS and Nm.showE; what was in memory stays as it was.
  Conditions: none.
  (This program has not all of these functions: Ten, Ten.cell, Ten.frozen, Ten.put, Ten.start, Ten.text, slice_ten, show_at, show_no, show_any are left out here.)
-/
set_option maxRecDepth 4000
namespace Go.Proofs.Ytahacjfeopjbaaa
open Go.RowKit

end Go.Proofs.Ytahacjfeopjbaaa
/-
  What the reference's Digit, Is, digits, Show, Take and Whole of layer 1 answer, for every input: Nm.isDig, Nm.isNum, Nm.digs, Nm.showS and Nm.showE, Nm.takeR, Nm.wholeR.
  Conditions: a string's length is at most the model's greatest; digits: a number from 0 to 2147483647.
  (This program has not all of these functions: rDigit_at, rIs_at, one_text, rdigits_small, rdigits_at, rShow_at are left out here.)
-/
set_option maxRecDepth 4000
namespace Go.Proofs.Ytahacjfeopjbaaa
open Go.RowKit

end Go.Proofs.Ytahacjfeopjbaaa
/-
  What the reference's Take and Whole of layer 1 answer, for every input: Nm.takeR and Nm.wholeR.
  Conditions: a string's length is at most the model's greatest.
  (This program has not all of these functions: rTake_at, rWhole_at are left out here.)
-/
set_option maxRecDepth 4000
namespace Go.Proofs.Ytahacjfeopjbaaa
open Go.RowKit

end Go.Proofs.Ytahacjfeopjbaaa
