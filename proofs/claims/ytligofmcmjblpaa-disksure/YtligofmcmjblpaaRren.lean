/- The document's own disk: Remove, Rename, Sync, SyncDir, the fuse and the fault. -/
import Derived.Test.YtligofmcmjblpaaRcreate
namespace Go.Proofs.Ytligofmcmjblpaa
open Go.RowKit
set_option linter.unusedVariables false
set_option linter.unusedSimpArgs false

end Go.Proofs.Ytligofmcmjblpaa
