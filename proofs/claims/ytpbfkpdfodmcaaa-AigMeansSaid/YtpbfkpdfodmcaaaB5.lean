import Derived.Test.YtpbfkpdfodmcaaaB4
import Derived.Test.YtpbfkpdfodmcaaaS1
