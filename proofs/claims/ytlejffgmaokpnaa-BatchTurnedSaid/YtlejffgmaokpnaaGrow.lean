/- (The small lemmas on worlds lie in Base.) -/
import Derived.Test.YtlejffgmaokpnaaBase
